/- The symbolic machine's code, loops and functions: what it finds, the model's machine does. -/
import Derived.Test.YtipcoahafdolcaaEvn
import Derived.LoopN
import Derived.Scope
namespace Go.Proofs.Ytipcoahafdolcaa.Ev
set_option linter.unusedSimpArgs false
open Go Go.RowKit
set_option linter.unusedVariables false
set_option linter.unusedSectionVars false
variable {P : Program} {ρ : Env} {Γ : Facts}

def evDraw (P : Program) (Γ : Facts) (call : CallF) (ops : Array Oper) (T : List SV) (H : Hp) : Option (List SV × Hp × List Nat) :=
  match evTr P Γ call ops ops.toList T H with
  | some (L, T', H') => if statR ops = true ∧ dynP L (ancL ops.toList #[]) = true then some (T', H', L.foldr (fun x W => addW x.W W) []) else none
  | none => none

theorem foldW {b : Nat} : ∀ {L : List TrI}, b ∈ WAll L → b ∈ L.foldr (fun x W => addW x.W W) []
  | [], h => by simp [WAll] at h
  | x :: L, h => by
    simp only [WAll, List.flatMap_cons, List.mem_append] at h
    simp only [List.foldr_cons]
    refine addW_mem (List.mem_append.2 (h.imp id fun h => foldW h))

theorem draw_ok (hm : P.follows .mixedOrders = true) (hΓ : Γ.Holds P ρ) {call : CallF} (hc : CallOk P ρ call) {id : Nat} {ops : Array Oper} {T T' : List SV} {H H' : Hp} {W : List Nat} (h : evDraw P Γ call ops T H = some (T', H', W))
    {σ : Sg} {a : Act} {w : World} (hT : TRel ρ σ H.length T a) (hr : HRel P ρ σ H w) {Q : Exit → Act → World → Prop} (hQ : ∀ σ' a' w', Post P ρ σ σ' H H' W w w' → TRel ρ σ' H'.length T' a' → Q .normal a' w') : (Code.region id ops true).wp P Q a w := by
  unfold evDraw at h
  split at h
  · rename_i L TN HN htr
    simp only [Option.ite_none_right_eq_some, Option.some.injEq, Prod.mk.injEq] at h
    obtain ⟨⟨hst, hdy⟩, rfl, rfl, rfl⟩ := h
    obtain ⟨q1, q2, q3, q4⟩ := evTr_ok htr
    simp only [statR, Bool.and_eq_true] at hst
    have hb := hst.2
    have hp : allPairs ops L (ancL ops.toList #[]) = true := pairs_of (fun i x hx => by
      have hi : i < ops.toList.length := by
        have := (List.getElem?_eq_some_iff.1 hx).1
        omega
      exact (q4 i _ x (List.getElem?_eq_getElem hi) hx).quiet) hst.1 hdy
    have t0 : TA L TN 0 = T ∧ HA L HN 0 = H := by
      cases hl : L[0]? with
      | none =>
        have : L = [] := by cases L with | nil => rfl | cons a b => simp at hl
        simp [TA, HA, hl, q3 this]
      | some x => simp [TA, HA, hl, q2 x hl]
    have R : Reg P Γ call ops L TN HN := by
      refine ⟨by simpa using q1, fun i o x ho hx => q4 i o x (by simpa using ho) hx, ?_, ?_⟩
      · rw [t0.1, t0.2]; exact hT.ins
      · rw [t0.2]; exact fun b y hb => (hr.blk b y hb).1
    have hlen : H.length ≤ HN.length := by
      have := R.lenM (i := 0) (j := ops.size) (Nat.zero_le _) (Nat.le_refl _)
      rwa [R.end_.2, t0.2] at this
    let σi : Sg := ⟨fun b => if b < H.length then σ.blk b else w.heap.size, fun b => σ.cap b⟩
    have hai : σ.agree H.length σi := fun b hb => ⟨if_pos hb, rfl⟩
    have c0 : ∀ {X : Type} (wr : Nat → Bool) (val : Nat → X), cont (fun i => (Array.replicate ops.size false).getD i false) wr val ops.size = val 0 := by
      intro X wr val
      rw [cont_later (j := 0) ops.size (Nat.zero_le _)]
      · rfl
      · intro i _ _ _
        by_cases hi : i < ops.size <;> simp [hi]
    have v0 : ∀ b, vB L HN b 0 = getB H b := fun b => by unfold vB; rw [t0.2]
    have I : Inv P ρ ops L TN HN σ σi w (fun i => (Array.replicate ops.size false).getD i false) a w.drew := by
      refine ⟨fun t hn => ?_, ?_, hT.defers, ⟨?_, ?_, ⟨fun b y hb => ?_, fun b b' y y' hb hb' he => ?_⟩, fun b h1 h2 => .inl ?_, rfl, rfl, rfl, Nat.le_refl _, fun _ _ _ => rfl, fun b hb _ => ?_⟩, fun t => ?_, fun b y hy => ?_⟩
      · rw [c0] at hn ⊢; unfold vT at hn ⊢; rw [t0.1] at hn ⊢; rw [SV.den_agree hai _ (hT.getD t)]; exact hT.val t hn
      · rw [t0.1]; exact hT.size
      · rw [t0.2]; exact hai
      · rw [t0.2, HD_length]; exact hlen
      · obtain ⟨hlt, hy⟩ := HD_some hb
        rw [c0, v0] at hy
        have hy := getB_some hy
        obtain ⟨hi, rest, g1, g2, g3⟩ := hr.blk b y hy
        have hbl : b < H.length := (List.getElem?_eq_some_iff.1 hy).1
        refine ⟨by rw [HD_length]; exact insideL_mono hlen _ hi, rest, ?_, g2, g3⟩
        rw [(hai b hbl).1, denL_agree hai _ hi]; exact g1
      · obtain ⟨_, hy⟩ := HD_some hb
        obtain ⟨_, hy'⟩ := HD_some hb'
        rw [c0, v0] at hy hy'
        have hy := getB_some hy
        have hy' := getB_some hy'
        rw [(hai b (List.getElem?_eq_some_iff.1 hy).1).1, (hai b' (List.getElem?_eq_some_iff.1 hy').1).1] at he
        exact hr.inj b b' y y' hy hy' he
      · rw [t0.2] at h1
        show w.heap.size ≤ if b < H.length then σ.blk b else w.heap.size
        rw [if_neg (by omega)]; exact Nat.le_refl _
      · rw [t0.2] at hb ⊢
        rw [HD_get (by omega), c0, v0]
        unfold getB
        rw [List.getElem?_eq_getElem hb]; rfl
      · rw [c0]; unfold vT; rw [t0.1]
        have := hT.getD t
        rw [← SV.on_inside] at this
        exact SV.on_mono (fun b hb => av_iff.2 (.inl (by rw [t0.2]; exact of_decide_eq_true hb))) _ this
      · rw [c0, v0] at hy
        have := (hr.blk b y (getB_some hy)).1
        rw [← onL_inside] at this
        exact onL_mono (fun b hb => av_iff.2 (.inl (by rw [t0.2]; exact of_decide_eq_true hb))) _ this
    refine wp_region_any hm ?_
    refine R.all hΓ hc hp hb (σ0 := σ) (w0 := w) (Q := Q) ?_ ops.size _ σi a w.drew (by simp) ?_ ?_ I
    · rintro σ' a' w' ⟨D, hD, I'⟩
      have cN : ∀ {X : Type} (wr : Nat → Bool) (val : Nat → X), (∀ i, i < ops.size → wr i = false → val (i + 1) = val i) → cont D wr val ops.size = val ops.size :=
        fun wr val h => cont_now ops.size (fun i hi _ => hD i hi) h
      have hH : HD L HN ops.size D = HN := by
        apply List.ext_getElem?
        intro b
        by_cases hb : b < HN.length
        · rw [HD_get hb, cN _ _ fun i hi hw => R.chainB hi hw]
          unfold vB getB
          rw [R.end_.2, List.getElem?_eq_getElem hb]; rfl
        · rw [List.getElem?_eq_none (by rw [HD_length]; omega), List.getElem?_eq_none (by omega)]
      have hpost := I'.post
      rw [hH, t0.2] at hpost
      refine hQ σ' a' w' (hpost.mono fun b hb => foldW hb) ⟨fun t hn => ?_, fun v hv => ?_, ?_, I'.df⟩
      · have e := cN (wT ops t) (vT L TN t) fun i hi hw => R.chainT hi hw
        have e2 : vT L TN t ops.size = TN.getD t uS := by unfold vT; rw [R.end_.1]
        rw [I'.tv t (by rw [e, e2]; exact hn), e, e2]
      · have := R.insTA (Nat.le_refl ops.size) v (by rw [R.end_.1]; exact hv)
        rwa [R.end_.2] at this
      · have := R.lenT (i := ops.size) (Nat.le_refl _)
        rw [R.end_.1] at this
        rw [I'.ts, this]
    · intro j o ho hj
      by_cases hlt : j < ops.size <;> simp [hlt] at hj
    · unfold left
      exact Nat.le_trans List.countP_le_length (by simp)
  · cases h

/-- How code ends. -/
inductive Ex where
  | normal | exit (id : Nat) | ret
  deriving DecidableEq, Repr, Inhabited
def Ex.out : Ex → Exit
  | .normal => .normal
  | .exit id => .exit id
  | .ret => .ret
abbrev Res := Ex × List SV × Hp × List Nat

/-- Parts of code, by the numbers of the children from the part up to the whole. -/
def child : Code → Nat → Option Code
  | .seq x _, 0 => some x
  | .seq _ y, 1 => some y
  | .cond _ x _, 0 => some x
  | .cond _ _ y, 1 => some y
  | .block _ x, 0 => some x
  | .loop x, 0 => some x
  | .scope x, 0 => some x
  | _, _ => none
def sub (c : Code) : List Nat → Option Code
  | [] => some c
  | i :: p => (sub c p).bind (child · i)
def codeAt (P : Program) (f : FuncId) (p : List Nat) : Option Code := ((P.funcs[f]?).bind (·.body)).bind (sub · p)
theorem codeAt_child {f : FuncId} {p : List Nat} {c x : Code} {i : Nat} (h : codeAt P f p = some c) (hx : child c i = some x) : codeAt P f (i :: p) = some x := by
  unfold codeAt at h ⊢
  obtain ⟨b, hb, hs⟩ := Option.bind_eq_some_iff.1 h
  rw [hb]
  simp only [Option.bind_some, sub, hs, hx]

/-- What is told of a loop: from these slots and blocks it leads to those. -/
structure LoopF where
  f : FuncId
  path : List Nat
  T : List SV
  H : Hp
  r : Res

def leT : List SV → List SV → Bool
  | [], [] => true
  | a :: l, b :: r => (b.isAny || a.same b) && leT l r
  | _, _ => false
def sameB : Blk → Blk → Bool := fun x y => sameL x.cells y.cells && (decide (x.elem = y.elem) && (x.ro == y.ro && x.opn == y.opn))
def sameH : Hp → Hp → Bool
  | [], [] => true
  | none :: l, none :: r => sameH l r
  | some x :: l, some y :: r => sameB x y && sameH l r
  | _, _ => false
theorem sameB_eq {x y : Blk} (h : sameB x y = true) : x = y := by
  obtain ⟨a, b, c, d⟩ := x; obtain ⟨a', b', c', d'⟩ := y
  simp only [sameB, Bool.and_eq_true, decide_eq_true_eq, beq_iff_eq] at h
  obtain ⟨h1, h2, h3, h4⟩ := h
  rw [sameL_eq _ _ h1, h2, h3, h4]
theorem sameH_eq : ∀ {H K : Hp}, sameH H K = true → H = K
  | [], [], _ => rfl
  | none :: l, none :: r, h => by simp only [sameH] at h; rw [sameH_eq h]
  | some x :: l, some y :: r, h => by simp only [sameH, Bool.and_eq_true] at h; rw [sameB_eq h.1, sameH_eq h.2]
  | [], _ :: _, h => by cases h
  | _ :: _, [], h => by simp [sameH] at h
  | none :: _, some _ :: _, h => by cases h
  | some _ :: _, none :: _, h => by cases h
theorem leT_length : ∀ {T U : List SV}, leT T U = true → U.length = T.length
  | [], [], _ => rfl
  | a :: l, b :: r, h => by simp only [leT, Bool.and_eq_true] at h; simp [leT_length h.2]
  | [], _ :: _, h => by cases h
  | _ :: _, [], h => by cases h
theorem leT_get : ∀ {T U : List SV}, leT T U = true → ∀ t, (U.getD t uS).isAny = true ∨ U.getD t uS = T.getD t uS
  | [], [], _, t => .inr rfl
  | a :: l, b :: r, h, 0 => by
    simp only [leT, Bool.and_eq_true, Bool.or_eq_true] at h
    rcases h.1 with h1 | h1
    · exact .inl h1
    · exact .inr (SV.same_eq _ _ h1).symm
  | a :: l, b :: r, h, t + 1 => by
    simp only [leT, Bool.and_eq_true] at h
    exact leT_get h.2 t
  | [], _ :: _, h, _ => by cases h
  | _ :: _, [], h, _ => by cases h
theorem any_inside {v : SV} (h : v.isAny = true) (n : Nat) : v.inside n = true := by
  cases v <;> first | rfl | cases h
theorem TRel.le {σ : Sg} {n : Nat} {T U : List SV} {a : Act} (h : TRel ρ σ n T a) (hl : leT T U = true) : TRel ρ σ n U a := by
  refine ⟨fun t hn => ?_, fun v hv => ?_, by rw [h.size, leT_length hl], h.defers⟩
  · rcases leT_get hl t with e | e
    · rw [e] at hn; cases hn
    · rw [e] at hn ⊢; exact h.val t hn
  · obtain ⟨t, ht, rfl⟩ := List.mem_iff_getElem.1 hv
    have e : U[t] = U.getD t uS := by rw [List.getD_eq_getElem?_getD, List.getElem?_eq_getElem ht]; rfl
    rw [e]
    rcases leT_get hl t with e | e
    · exact any_inside e n
    · rw [e]; exact h.getD t

def samePath : List Nat → List Nat → Bool
  | [], [] => true
  | i :: p, j :: q => Nat.beq i j && samePath p q
  | _, _ => false
theorem samePath_eq : ∀ {p q : List Nat}, samePath p q = true → p = q
  | [], [], _ => rfl
  | i :: p, j :: q, h => by simp only [samePath, Bool.and_eq_true] at h; rw [Nat.eq_of_beq_eq_true h.1, samePath_eq h.2]
  | [], _ :: _, h => by cases h
  | _ :: _, [], h => by cases h
def findL : List LoopF → FuncId → List Nat → List SV → Hp → Option Res
  | [], _, _, _, _ => none
  | l :: L, f, p, T, H => if Nat.beq l.f f && (samePath l.path p && (leT T l.T && sameH H l.H)) then some l.r else findL L f p T H
theorem findL_mem : ∀ {L : List LoopF} {f : FuncId} {p : List Nat} {T : List SV} {H : Hp} {r : Res}, findL L f p T H = some r → ∃ l ∈ L, l.f = f ∧ l.path = p ∧ leT T l.T = true ∧ H = l.H ∧ l.r = r
  | [], _, _, _, _, _, h => by cases h
  | l :: L, f, p, T, H, r, h => by
    simp only [findL] at h
    split at h
    · rename_i e
      simp only [Bool.and_eq_true] at e
      cases h
      exact ⟨l, by simp, Nat.eq_of_beq_eq_true e.1, samePath_eq e.2.1, e.2.2.1, sameH_eq e.2.2.2, rfl⟩
    · obtain ⟨l', h1, h2⟩ := findL_mem h
      exact ⟨l', List.mem_cons_of_mem _ h1, h2⟩

def evLoop (body : List SV → Hp → Option Res) : Nat → List SV → Hp → Option Res
  | 0, _, _ => none
  | n + 1, T, H => match body T H with
    | some (.normal, T1, H1, W1) => (match evLoop body n T1 H1 with
      | some (e, T2, H2, W2) => some (e, T2, H2, addW W1 W2)
      | none => none)
    | r => r

def evC (P : Program) (Γ : Facts) (Λ : List LoopF) (lf : Nat) (call : CallF) (f : FuncId) : Nat → List Nat → Code → List SV → Hp → Option Res
  | 0, _, _, _, _ => none
  | n + 1, p, c, T, H => match c with
    | .skip => some (.normal, T, H, [])
    | .label _ => some (.normal, T, H, [])
    | .region _ ops false => (evSeq P Γ call ops ops.toList T H).map fun r => (.normal, r)
    | .region _ ops true => (evDraw P Γ call ops T H).map fun r => (.normal, r)
    | .seq x y => (match evC P Γ Λ lf call f n (0 :: p) x T H with
      | some (.normal, T1, H1, W1) => (match evC P Γ Λ lf call f n (1 :: p) y T1 H1 with
        | some (e, T2, H2, W2) => some (e, T2, H2, addW W1 W2)
        | none => none)
      | r => r)
    | .cond c x y => (match evO T c with
      | some (.bool b) => (match res Γ b with
        | some true => evC P Γ Λ lf call f n (0 :: p) x T H
        | some false => evC P Γ Λ lf call f n (1 :: p) y T H
        | none => none)
      | _ => none)
    | .block id x => (match evC P Γ Λ lf call f n (0 :: p) x T H with
      | some (.exit id', r) => if id' = id then some (.normal, r) else some (.exit id', r)
      | r => r)
    | .loop x => (match findL Λ f p T H with
      | some r => some r
      | none => evLoop (evC P Γ Λ lf call f n (0 :: p) x) lf T H)
    | .exit id => some (.exit id, T, H, [])
    | .ret => some (.ret, T, H, [])
    | .scope x => evC P Γ Λ lf call f n (0 :: p) x T H
    | _ => none

/-- A walk that leads to such an end. -/
def Leads (P : Program) (ρ : Env) (c : Code) (T : List SV) (H : Hp) (r : Res) : Prop :=
  ∀ (σ : Sg) (a : Act) (w : World) (Q : Exit → Act → World → Prop), TRel ρ σ H.length T a → HRel P ρ σ H w →
    (∀ σ' a' w', Post P ρ σ σ' H r.2.2.1 r.2.2.2 w w' → TRel ρ σ' r.2.2.1.length r.2.1 a' → Q r.1.out a' w') → c.wp P Q a w

/-- A fact about a loop is true. -/
def LoopF.Ok (P : Program) (ρ : Env) (l : LoopF) : Prop := ∀ x, codeAt P l.f l.path = some (.loop x) → Leads P ρ (.loop x) l.T l.H l.r

theorem Leads.seq {x y : Code} {T T1 : List SV} {H H1 : Hp} {W1 : List Nat} {e : Ex} {T2 : List SV} {H2 : Hp} {W2 : List Nat} (h1 : Leads P ρ x T H (.normal, T1, H1, W1)) {Q : Exit → Act → World → Prop} {σ : Sg} {a : Act} {w : World}
    {next : Act → World → Prop} (hT : TRel ρ σ H.length T a) (hr : HRel P ρ σ H w)
    (h2 : ∀ σ1 a1 w1, Post P ρ σ σ1 H H1 W1 w w1 → TRel ρ σ1 H1.length T1 a1 → next a1 w1) : x.wp P (Exit.then next Q) a w :=
  h1 σ a w _ hT hr fun σ1 a1 w1 hp hT1 => h2 σ1 a1 w1 hp hT1

theorem evLoop_ok {c : Code} {body : List SV → Hp → Option Res} (hb : ∀ T H r, body T H = some r → Leads P ρ c T H r) : ∀ (n : Nat) (T : List SV) (H : Hp) (r : Res), evLoop body n T H = some r →
    ∀ (σ : Sg) (a : Act) (w : World) (Q : Exit → Act → World → Prop), TRel ρ σ H.length T a → HRel P ρ σ H w →
    (∀ σ' a' w', Post P ρ σ σ' H r.2.2.1 r.2.2.2 w w' → TRel ρ σ' r.2.2.1.length r.2.1 a' → Q r.1.out a' w') → Code.rounds P c Q n a w
  | 0, T, H, r, h, _, _, _, _, _, _, _ => by cases h
  | n + 1, T, H, r, h, σ, a, w, Q, hT, hr, hQ => by
    rw [rounds_succ]
    simp only [evLoop] at h
    split at h
    · rename_i T1 H1 W1 h1
      split at h
      · rename_i e T2 H2 W2 h2
        cases h
        refine hb _ _ _ h1 σ a w _ hT hr fun σ1 a1 w1 hp hT1 => ?_
        exact evLoop_ok hb n _ _ _ h2 σ1 a1 w1 Q hT1 hp.rel fun σ' a' w' hp' hT' => hQ σ' a' w' ((hp.trans hp').mono fun b hb => addW_mem hb) hT'
      · cases h
    · rename_i hne
      obtain ⟨e, T1, H1, W1⟩ := r
      refine hb _ _ _ h σ a w _ hT hr fun σ' a' w' hp hT' => ?_
      have := hQ σ' a' w' hp hT'
      cases e with
      | normal => exact absurd h (hne T1 H1 W1)
      | exit id => exact this
      | ret => exact this

theorem evC_ok (hm : P.follows .mixedOrders = true) (hΓ : Γ.Holds P ρ) {Λ : List LoopF} (hΛ : ∀ l ∈ Λ, l.Ok P ρ) {lf : Nat} {call : CallF} (hc : CallOk P ρ call) {f : FuncId} : ∀ (n : Nat) (p : List Nat) (c : Code) (T : List SV) (H : Hp) (r : Res), codeAt P f p = some c → evC P Γ Λ lf call f n p c T H = some r → Leads P ρ c T H r
  | 0, p, c, T, H, r, hp, h => by cases h
  | n + 1, p, c, T, H, r, hp, h => by
    intro σ a w Q hT hr hQ
    cases c <;> simp only [evC] at h
    case skip => cases h; exact wp_skip (hQ σ a w (Post.refl hr) hT)
    case label l => cases h; exact wp_label (hQ σ a w (Post.refl hr) hT)
    case exit id => cases h; exact wp_exit (hQ σ a w (Post.refl hr) hT)
    case ret => cases h; exact wp_ret (hQ σ a w (Post.refl hr) hT)
    case region id ops d =>
      cases d with
      | false =>
        simp only at h
        obtain ⟨⟨T1, H1, W1⟩, h1, rfl⟩ := Option.map_eq_some_iff.1 h
        exact wp_region_list (seq_ok hΓ hc _ _ _ _ _ _ h1 σ a w hT hr fun σ' a' w' hp hT' => hQ σ' a' w' hp hT')
      | true =>
        simp only at h
        obtain ⟨⟨T1, H1, W1⟩, h1, rfl⟩ := Option.map_eq_some_iff.1 h
        exact draw_ok hm hΓ hc h1 hT hr fun σ' a' w' hp hT' => hQ σ' a' w' hp hT'
    case seq x y =>
      refine wp_seq ?_
      split at h
      · rename_i T1 H1 W1 h1
        split at h
        · rename_i e T2 H2 W2 h2
          cases h
          refine evC_ok hm hΓ hΛ hc n _ _ _ _ _ (codeAt_child (i := 0) hp rfl) h1 σ a w _ hT hr fun σ1 a1 w1 hp1 hT1 => ?_
          exact evC_ok hm hΓ hΛ hc n _ _ _ _ _ (codeAt_child (i := 1) hp rfl) h2 σ1 a1 w1 Q hT1 hp1.rel fun σ' a' w' hp' hT' => hQ σ' a' w' ((hp1.trans hp').mono fun b hb => addW_mem hb) hT'
        · cases h
      · rename_i hne
        obtain ⟨e, T1, H1, W1⟩ := r
        refine evC_ok hm hΓ hΛ hc n _ _ _ _ _ (codeAt_child (i := 0) hp rfl) h σ a w _ hT hr fun σ' a' w' hp hT' => ?_
        have := hQ σ' a' w' hp hT'
        cases e with
        | normal => exact absurd h (hne T1 H1 W1)
        | exit id => exact this
        | ret => exact this
    case cond c x y =>
      split at h
      · rename_i b hb
        obtain ⟨e, _⟩ := evO_den hT hb
        split at h
        · rename_i hres
          exact wp_cond_true (by rw [e]; simp [SV.den, res_den hΓ hres]) (evC_ok hm hΓ hΛ hc n _ _ _ _ _ (codeAt_child (i := 0) hp rfl) h σ a w Q hT hr hQ)
        · rename_i hres
          exact wp_cond_false (by rw [e]; simp [SV.den, res_den hΓ hres]) (evC_ok hm hΓ hΛ hc n _ _ _ _ _ (codeAt_child (i := 1) hp rfl) h σ a w Q hT hr hQ)
        · cases h
      · cases h
    case block id x =>
      refine wp_block ?_
      split at h
      · rename_i id' T1 H1 h1
        split at h
        · rename_i hid
          cases h
          refine evC_ok hm hΓ hΛ hc n _ _ _ _ _ (codeAt_child (i := 0) hp rfl) h1 σ a w _ hT hr fun σ' a' w' hp hT' => ?_
          simp only [Ex.out, Exit.inBlock, hid, if_true]
          exact hQ σ' a' w' hp hT'
        · rename_i hid
          cases h
          refine evC_ok hm hΓ hΛ hc n _ _ _ _ _ (codeAt_child (i := 0) hp rfl) h1 σ a w _ hT hr fun σ' a' w' hp hT' => ?_
          simp only [Ex.out, Exit.inBlock, hid, if_false]
          exact hQ σ' a' w' hp hT'
      · rename_i hne
        obtain ⟨e, r⟩ := r
        refine evC_ok hm hΓ hΛ hc n _ _ _ _ _ (codeAt_child (i := 0) hp rfl) h σ a w _ hT hr fun σ' a' w' hp hT' => ?_
        have := hQ σ' a' w' hp hT'
        cases e with
        | normal => exact this
        | exit id => exact absurd h (hne id r)
        | ret => exact this
    case loop x =>
      split at h
      · rename_i r' hl
        cases h
        obtain ⟨l, h1, rfl, rfl, h2, rfl, rfl⟩ := findL_mem hl
        exact hΛ l h1 x hp σ a w Q (hT.le h2) hr hQ
      · exact wp_loop_rounds lf (evLoop_ok (fun T H r h => evC_ok hm hΓ hΛ hc n _ x T H r (codeAt_child (i := 0) hp rfl) h) lf T H r h σ a w Q hT hr hQ)
    case scope x =>
      refine wp_scope_straight ?_
      obtain ⟨e, r⟩ := r
      refine evC_ok hm hΓ hΛ hc n _ _ _ _ _ (codeAt_child (i := 0) hp rfl) h σ a w _ hT hr fun σ' a' w' hp hT' => ?_
      have := hQ σ' a' w' hp hT'
      cases e <;> exact this
    all_goals cases h
end Go.Proofs.Ytipcoahafdolcaa.Ev
