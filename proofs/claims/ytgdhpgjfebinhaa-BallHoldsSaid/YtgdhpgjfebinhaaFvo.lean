/- The symbolic machine's code, loops and functions: what it finds, the model's machine does. -/
import Derived.Test.YtgdhpgjfebinhaaFvn
import Derived.LoopN
import Derived.LoopNIn
import Derived.Scope
import Derived.RangeFuncIn
namespace Go.Proofs.Ytgdhpgjfebinhaa.Ev
set_option linter.unusedSimpArgs false
open Go Go.RowKit
set_option linter.unusedVariables false
set_option linter.unusedSectionVars false
variable {P : Program} {ρ : Env} {Γ : Facts}
variable {ds : List Deferred}

def evDraw (P : Program) (Γ : Facts) (call : CallF) (ops : Array Oper) (T : List SV) (H : Hp) : Option (List SV × Hp × List Nat) :=
  match evTr P Γ call ops ops.toList T H with
  | some (L, T', H') => if statR ops = true ∧ dynP L (ancL ops.toList #[]) = true then some (T', H', L.foldr (fun x W => addW x.W W) []) else none
  | none => none

theorem foldW {b : Nat} : ∀ {L : List TrI}, b ∈ WAll L → b ∈ L.foldr (fun x W => addW x.W W) []
  | [], h => by simp [WAll] at h
  | x :: L, h => by
    simp only [WAll, List.flatMap_cons, List.mem_append] at h
    simp only [List.foldr_cons]
    refine addW_mem (List.mem_append.2 (h.imp id fun h => foldW h))

theorem draw_ok {ro : Option Nat} {m : Nat} (hm : P.follows .mixedOrders = true) (hΓ : Γ.Holds P ρ) {call : CallF} (hc : CallOk P ρ call) {id : Nat} {ops : Array Oper} {T T' : List SV} {H H' : Hp} {W : List Nat} (h : evDraw P Γ call ops T H = some (T', H', W))
    {σ : Sg} {a : Act} {w : World} (hT : TRel ds ρ σ H.length T a) (hr : HRel P ρ σ H w) {Q : Exit → Act → World → Prop} (hQ : ∀ σ' a' w', Post P ρ σ σ' H H' W w w' → TRel ds ρ σ' H'.length T' a' → Q .normal a' w') : (Code.region id ops true).wpIn (Rn ro) m P Q a w := by
  unfold evDraw at h
  split at h
  · rename_i L TN HN htr
    simp only [Option.ite_none_right_eq_some, Option.some.injEq, Prod.mk.injEq] at h
    obtain ⟨⟨hst, hdy⟩, rfl, rfl, rfl⟩ := h
    obtain ⟨q1, q2, q3, q4⟩ := evTr_ok htr
    simp only [statR, Bool.and_eq_true] at hst
    have hb := hst.2
    have hp : allPairs ops L (ancL ops.toList #[]) = true := pairs_of (fun i x hx => by
      have hi : i < ops.toList.length := by
        have := (List.getElem?_eq_some_iff.1 hx).1
        omega
      exact (q4 i _ x (List.getElem?_eq_getElem hi) hx).quiet) hst.1 hdy
    have t0 : TA L TN 0 = T ∧ HA L HN 0 = H := by
      cases hl : L[0]? with
      | none =>
        have : L = [] := by cases L with | nil => rfl | cons a b => simp at hl
        simp [TA, HA, hl, q3 this]
      | some x => simp [TA, HA, hl, q2 x hl]
    have R : Reg P Γ call ops L TN HN := by
      refine ⟨by simpa using q1, fun i o x ho hx => q4 i o x (by simpa using ho) hx, ?_, ?_⟩
      · rw [t0.1, t0.2]; exact hT.ins
      · rw [t0.2]; exact fun b y hb => (hr.blk b y hb).1
    have hlen : H.length ≤ HN.length := by
      have := R.lenM (i := 0) (j := ops.size) (Nat.zero_le _) (Nat.le_refl _)
      rwa [R.end_.2, t0.2] at this
    let σi : Sg := ⟨fun b => if b < H.length then σ.blk b else w.heap.size, fun b => σ.cap b, fun b => σ.off b, fun b => σ.gh b⟩
    have hai : σ.agree H.length σi := fun b hb => ⟨if_pos hb, rfl, rfl, rfl⟩
    have c0 : ∀ {X : Type} (wr : Nat → Bool) (val : Nat → X), cont (fun i => (Array.replicate ops.size false).getD i false) wr val ops.size = val 0 := by
      intro X wr val
      rw [cont_later (j := 0) ops.size (Nat.zero_le _)]
      · rfl
      · intro i _ _ _
        by_cases hi : i < ops.size <;> simp [hi]
    have v0 : ∀ b, vB L HN b 0 = getB H b := fun b => by unfold vB; rw [t0.2]
    have I : Inv ds P ρ ops L TN HN σ σi w (fun i => (Array.replicate ops.size false).getD i false) a w.drew := by
      refine ⟨fun t hn => ?_, ?_, hT.defers, ⟨?_, ?_, ⟨fun b y hb => ?_, fun b b' y y' hb hb' hs hg hg' he => ?_⟩, fun b h1 h2 hg => .inl ?_, rfl, rfl, rfl, Nat.le_refl _, Kd.same fun _ _ => rfl, fun _ _ _ => rfl, fun b hb _ => ?_⟩, fun t => ?_, fun b y hy => ?_⟩
      · rw [c0] at hn ⊢; unfold vT at hn ⊢; rw [t0.1] at hn ⊢; rw [SV.den_agree hai _ (hT.getD t)]; exact hT.val t hn
      · rw [t0.1]; exact hT.size
      · rw [t0.2]; exact hai
      · rw [t0.2, HD_length]; exact hlen
      · obtain ⟨hlt, hy⟩ := HD_some hb
        rw [c0, v0] at hy
        have hy := getB_some hy
        obtain ⟨hi, hat⟩ := hr.blk b y hy
        have hbl : b < H.length := (List.getElem?_eq_some_iff.1 hy).1
        refine ⟨by rw [HD_length]; exact insideL_mono hlen _ hi, ?_⟩
        rw [hai.pl hbl]
        exact hat.to (denL_agree hai _ hi) fun _ => rfl
      · obtain ⟨_, hy⟩ := HD_some hb
        obtain ⟨_, hy'⟩ := HD_some hb'
        rw [c0, v0] at hy hy'
        have hy := getB_some hy
        have hy' := getB_some hy'
        rw [(hai b (List.getElem?_eq_some_iff.1 hy).1).1, (hai b' (List.getElem?_eq_some_iff.1 hy').1).1] at he
        exact hr.inj b b' y y' hy hy' hs hg hg' he
      · rw [t0.2] at h1
        show w.heap.size ≤ if b < H.length then σ.blk b else w.heap.size
        rw [if_neg (by omega)]; exact Nat.le_refl _
      · rw [t0.2] at hb ⊢
        rw [HD_get (by omega), c0, v0]
        unfold getB
        rw [List.getElem?_eq_getElem hb]; rfl
      · rw [c0]; unfold vT; rw [t0.1]
        have := hT.getD t
        rw [← SV.on_inside] at this
        exact SV.on_mono (fun b hb => av_iff.2 (.inl (by rw [t0.2]; exact of_decide_eq_true hb))) _ this
      · rw [c0, v0] at hy
        have := (hr.blk b y (getB_some hy)).1
        rw [← onL_inside] at this
        exact onL_mono (fun b hb => av_iff.2 (.inl (by rw [t0.2]; exact of_decide_eq_true hb))) _ this
    refine wpIn_region_any hm ?_
    refine R.all hΓ hc hp hb (σ0 := σ) (w0 := w) (Q := Q) ?_ ops.size _ σi a w.drew (by simp) ?_ ?_ I
    · rintro σ' a' w' ⟨D, hD, I'⟩
      have cN : ∀ {X : Type} (wr : Nat → Bool) (val : Nat → X), (∀ i, i < ops.size → wr i = false → val (i + 1) = val i) → cont D wr val ops.size = val ops.size :=
        fun wr val h => cont_now ops.size (fun i hi _ => hD i hi) h
      have hH : HD L HN ops.size D = HN := by
        apply List.ext_getElem?
        intro b
        by_cases hb : b < HN.length
        · rw [HD_get hb, cN _ _ fun i hi hw => R.chainB hi hw]
          unfold vB getB
          rw [R.end_.2, List.getElem?_eq_getElem hb]; rfl
        · rw [List.getElem?_eq_none (by rw [HD_length]; omega), List.getElem?_eq_none (by omega)]
      have hpost := I'.post
      rw [hH, t0.2] at hpost
      refine hQ σ' a' w' (hpost.mono fun b hb => foldW hb) ⟨fun t hn => ?_, fun v hv => ?_, ?_, I'.df⟩
      · have e := cN (wT ops t) (vT L TN t) fun i hi hw => R.chainT hi hw
        have e2 : vT L TN t ops.size = TN.getD t uS := by unfold vT; rw [R.end_.1]
        rw [I'.tv t (by rw [e, e2]; exact hn), e, e2]
      · have := R.insTA (Nat.le_refl ops.size) v (by rw [R.end_.1]; exact hv)
        rwa [R.end_.2] at this
      · have := R.lenT (i := ops.size) (Nat.le_refl _)
        rw [R.end_.1] at this
        rw [I'.ts, this]
    · intro j o ho hj
      by_cases hlt : j < ops.size <;> simp [hlt] at hj
    · unfold left
      exact Nat.le_trans List.countP_le_length (by simp)
  · cases h

/-- How code ends. -/
inductive Ex where
  | normal | exit (id : Nat) | ret
  deriving DecidableEq, Repr, Inhabited
def Ex.out : Ex → Exit
  | .normal => .normal
  | .exit id => .exit id
  | .ret => .ret
abbrev Res := Ex × List SV × Hp × List Nat

/-- The record of a range over a function. -/
def getR (H : Hp) (b : Nat) : Option Blk := match getB H b with
  | some x => if x.isRec then some x else none
  | none => none
def stOf (x : Blk) : Option Int := match x.cells with
  | .int .i64 (.lit n) :: _ => some n
  | _ => none
def setSt (x : Blk) (n : Nat) : Blk := { x with cells := .int .i64 (.lit n) :: x.cells.tail }
def exSt : Ex → Nat
  | .normal => 0
  | .ret => 2
  | .exit k => k + 3
def stEx (n : Int) : Option Ex := match n.toNat with
  | 0 => some .normal
  | 1 => none
  | 2 => some .ret
  | k + 3 => some (.exit k)
def placeOf (f : FuncId) (p : List Nat) : Nat := pathC p * 4294967296 + f
def recB (f : FuncId) (p : List Nat) (T : List SV) : Blk := ⟨.int .i64 (.lit 0) :: T, placeOf f p, true, true, none⟩
def Ex.isN : Ex → Bool
  | .normal => true
  | _ => false
def Ex.jump : Ex → Option Code
  | .normal => none
  | .ret => some .ret
  | .exit k => some (.exit k)
theorem getR_some {H : Hp} {b : Nat} {x : Blk} (h : getR H b = some x) : H[b]? = some (some x) ∧ x.isRec = true := by
  unfold getR at h
  split at h
  · rename_i y hy
    split at h
    · rename_i hn; cases h; exact ⟨getB_some hy, hn⟩
    · cases h
  · cases h
theorem stEx_ok {n : Nat} {e : Ex} (h : stEx (n : Int) = some e) {r : Loop} (hs : stIs n r) : r.state ≠ .busy ∧ r.pending = e.jump := by
  unfold stEx at h
  rw [Int.toNat_natCast] at h
  split at h <;> cases h
  · obtain ⟨h1, h2⟩ := hs; exact ⟨by rw [h1]; decide, h2⟩
  · obtain ⟨h1, h2⟩ := hs; exact ⟨by rw [h1]; decide, h2⟩
  · obtain ⟨h1, h2⟩ := hs; exact ⟨by rw [h1]; decide, h2⟩
theorem stOf_den {x : Blk} {n : Int} (h : stOf x = some n) {v0 : SV} {T : List SV} (hc : x.cells = v0 :: T) (ρ : Env) (σ : Sg) : v0.den ρ σ = .int .i64 n := by
  unfold stOf at h
  rw [hc] at h
  split at h
  · rename_i m l e; cases h; cases e; rfl
  · cases h
/-- What the record is, at a known state. -/
theorem rec_at {σ : Sg} {H : Hp} {w : World} (hr : HRel P ρ σ H w) {b : Nat} {x : Blk} (hx : getR H b = some x) : σ.gh b = none ∧ ∃ (r : Loop) (g : Operand) (st : Nat) (v0 : SV) (T : List SV), w.heap[σ.blk b]? = some (.loop r) ∧ codeAt P (recF x.elem) (recP x.elem) = some (.rangeFunc g r.params r.assign r.body) ∧
    x.cells = v0 :: T ∧ v0.isAny = false ∧ v0.den ρ σ = .int .i64 st ∧ stIs st r ∧ r.tmps.size = T.length ∧ ∀ (t : Nat) v, T[t]? = some v → v.isAny = false → r.tmps.getD t undef = v.den ρ σ := by
  obtain ⟨h1, h2⟩ := getR_some hx
  obtain ⟨g, h⟩ := (hr.blk b x h1).2.rcd h2
  exact ⟨g, h⟩
theorem stOf_st {x : Blk} {n : Int} (h : stOf x = some n) {v0 : SV} {T : List SV} (hc : x.cells = v0 :: T) {σ : Sg} {st : Nat} (hv : v0.den ρ σ = .int .i64 st) : n = st := by
  have := stOf_den h hc ρ σ
  rw [this] at hv
  cases hv; rfl
/-- The record goes on. -/
theorem rec_step {σ : Sg} {H : Hp} {w : World} (hr : HRel P ρ σ H w) {b : Nat} {x : Blk} (hx : getR H b = some x) {r : Loop} (hw : w.heap[σ.blk b]? = some (.loop r)) {st : Nat} {r' : Loop} (h1 : r'.params = r.params) (h2 : r'.assign = r.assign) (h3 : r'.body = r.body) (h4 : r'.tmps = r.tmps) (hs : stIs st r') :
    Post P ρ σ σ H (H.set b (some (setSt x st))) [b] w (w.putObj (σ.blk b) (.loop r')) := by
  obtain ⟨hb, hrc⟩ := getR_some hx
  obtain ⟨hg, r0, g, st0, v0, T, k1, k2, k3, k4, k5, k6, k7, k8⟩ := rec_at hr hx
  rw [hw] at k1; cases k1
  obtain ⟨hi, _⟩ := hr.blk b x hb
  have hrc' : (setSt x st).isRec = true := hrc
  have hlt : σ.blk b < w.heap.size := (Array.getElem?_eq_some_iff.1 hw).1
  have hce : (setSt x st).cells = .int .i64 (.lit st) :: T := by simp [setSt, k3]
  refine Post.upd hr hb (fun _ => hrc') (Blk.rec_shd hrc) (Blk.rec_shd hrc') ?_ ⟨(fun _ hn => by rw [hrc'] at hn; cases hn), (fun A hA => by rw [Blk.rec_none hrc'] at hA; cases hA), fun _ => ⟨hg, r', g, st, .int .i64 (.lit st), T, ?_, ?_, hce, rfl, rfl, hs, by rw [h4]; exact k7, by rw [h4]; exact k8⟩⟩ rfl rfl rfl (by simp) ?_
  · rw [hce]; rw [k3] at hi
    simp only [insideL, Bool.and_eq_true] at hi ⊢
    exact ⟨rfl, hi.2⟩
  · show (w.putObj (σ.blk b) (.loop r')).heap[σ.blk b]? = _
    exact World.putObj_heap_same hlt
  · rw [h1, h2, h3]; exact k2
  · intro k hk hne
    exact World.putObj_heap_other (Ne.symm (hne hg))
/-- The record is given up. -/
theorem rec_drop {σ : Sg} {H : Hp} {w : World} (hr : HRel P ρ σ H w) {b : Nat} {x : Blk} (hx : getR H b = some x) {r : Loop} (hw : w.heap[σ.blk b]? = some (.loop r)) (r' : Loop) : Post P ρ σ σ H (H.set b none) [b] w (w.putObj (σ.blk b) (.loop r')) := by
  obtain ⟨hb, hrc⟩ := getR_some hx
  obtain ⟨hg, _⟩ := rec_at hr hx
  have hlt : b < H.length := (List.getElem?_eq_some_iff.1 hb).1
  have hltw : σ.blk b < w.heap.size := (Array.getElem?_eq_some_iff.1 hw).1
  have hold : ∀ (c : Nat) (y : Blk), (H.set b none)[c]? = some (some y) → c ≠ b ∧ H[c]? = some (some y) := by
    intro c y hc'
    by_cases e : c = b
    · subst e; rw [List.getElem?_set_self hlt] at hc'; cases hc'
    · rw [List.getElem?_set_ne (Ne.symm e)] at hc'; exact ⟨e, hc'⟩
  refine ⟨fun _ _ => ⟨rfl, rfl, rfl, rfl⟩, by simp, ⟨fun c y hc => ?_, fun c c' y y' hc hc' => hr.inj c c' y y' (hold _ _ hc).2 (hold _ _ hc').2⟩, fun c h1 h2 => by simp at h2; omega, rfl, rfl, rfl, by simp, ⟨fun k ds hk => ?_, fun k r0 hk => ?_⟩, fun k hk hW => World.putObj_heap_other fun e => hW b (by simp) hlt hg e.symm, fun c hc hW => ?_⟩
  · obtain ⟨hne, hy⟩ := hold c y hc
    obtain ⟨hi, hat⟩ := hr.blk c y hy
    refine ⟨by rw [List.length_set]; exact hi, hat.to rfl fun hg' => World.putObj_heap_other fun e => hne ?_⟩
    exact hr.inj c b y x hy hb (.inr (Blk.rec_shd hrc)) hg' hg e
  · rw [World.putObj_heap_other (by rintro rfl; rw [hw] at hk; cases hk)]; exact hk
  · by_cases e : k = σ.blk b
    · subst e; exact ⟨r', World.putObj_heap_same hltw⟩
    · exact ⟨r0, by rw [World.putObj_heap_other e]; exact hk⟩
  · simp only [List.mem_singleton] at hW
    rw [List.getElem?_set_ne (Ne.symm hW)]
/-- The record is laid. -/
theorem rec_new {σ : Sg} {H : Hp} {w : World} (hr : HRel P ρ σ H w) {T : List SV} {a : Act} (hT : TRel ds ρ σ H.length T a) {f : FuncId} {p : List Nat} {g : Operand} {ps : Array Tmp} {assign body : Code} (hc : codeAt P f p = some (.rangeFunc g ps assign body))
    (hf : recF (placeOf f p) = f) (hp : recP (placeOf f p) = p) {l : Nat} {fn D : Nat} {w' : World} (hl : w.heap.size ≤ l) (hw : w'.heap[l]? = some (.loop { state := .ready, pending := none, fn := fn, tmps := a.tmps, params := ps, assign := assign, body := body, defers := D }))
    (os : w'.os = w.os) (tape : w'.tape = w.tape) (out : w'.output = w.output) (size : w.heap.size ≤ w'.heap.size) (fr : ∀ k, k < w.heap.size → w'.heap[k]? = w.heap[k]?) :
    Post P ρ σ (σ.snoc H.length l 0) H (H ++ [some (recB f p T)]) [] w w' := by
  have ha := σ.snocP_agree H.length ⟨l, 0, 0, none⟩
  refine Post.add hr (recB f p T) ⟨l, 0, 0, none⟩ ?_ (fun _ => hl) ⟨(fun _ hn => by cases hn), (fun A hA => by cases hA), fun _ => ⟨rfl, _, g, 0, .int .i64 (.lit 0), T, hw, ?_, rfl, rfl, rfl, ⟨rfl, rfl⟩, hT.size, fun t v hv hn => ?_⟩⟩ os tape out size fr
  · simp only [recB, insideL, Bool.and_eq_true]
    exact ⟨rfl, insideL_of hT.ins⟩
  · simp only [recB]; rw [hf, hp]; exact hc
  · have e : T.getD t uS = v := by rw [List.getD_eq_getElem?_getD, hv]; rfl
    have := hT.val t (by rw [e]; exact hn)
    rw [this, e, SV.den_agree ha _ (hT.ins v (List.mem_of_getElem? hv))]

/-- What a call leaves: if nothing names the blocks that it made, they are forgotten. -/
def endCall (H : Hp) (v : SV) (H' : Hp) (W : List Nat) : Out :=
  if v.inside H.length = true ∧ H.length ≤ H'.length ∧ (W.filter fun b => decide (b < H.length)).all (fun b => match getB H' b with | some x => insideL H.length x.cells | none => true) = true then (v, H'.take H.length, W.filter fun b => decide (b < H.length))
  else (v, H', W.filter fun b => decide (b < H.length))

theorem endCall_ok {σ σ' : Sg} {H H' : Hp} {W : List Nat} {w w' : World} {v : SV} (hr : HRel P ρ σ H w) (h : Post P ρ σ σ' H H' W w w') (hv : v.inside H'.length = true) : Good P ρ σ H (endCall H v H' W) w (v.den ρ σ') w' := by
  have hcut := h.cut
  unfold endCall
  split
  · rename_i hc
    obtain ⟨h1, h2, h3⟩ := hc
    have ht : ∀ (b : Nat) (x : Blk), (H'.take H.length)[b]? = some (some x) → b < H.length ∧ H'[b]? = some (some x) := by
      intro b x hb
      rw [List.getElem?_take] at hb
      split at hb
      · rename_i hlt; exact ⟨hlt, hb⟩
      · cases hb
    have hlen : (H'.take H.length).length = H.length := by simp; omega
    refine ⟨σ', ⟨h.ext, by rw [hlen]; exact Nat.le_refl _, ⟨fun b x hb => ?_, fun b b' x x' hb hb' => h.rel.inj b b' x x' (ht b x hb).2 (ht b' x' hb').2⟩, fun b q1 q2 _ => by rw [hlen] at q2; omega, h.os, h.tape, h.out, h.size, h.kd, hcut.frame, fun b hb hW => ?_⟩, rfl, by rw [hlen]; exact h1⟩
    · obtain ⟨hlt, hb'⟩ := ht b x hb
      refine ⟨?_, (h.rel.blk b x hb').2⟩
      rw [hlen]
      by_cases hW : b ∈ W.filter fun b => decide (b < H.length)
      · have := List.all_eq_true.1 h3 b hW
        rw [some_getB hb'] at this
        exact this
      · have := hcut.kept b hlt hW
        rw [hb'] at this
        exact (hr.blk b x this.symm).1
    · rw [List.getElem?_take, if_pos hb]; exact hcut.kept b hb hW
  · exact ⟨σ', hcut, rfl, hv⟩

/-- The functions with bodies have other names than the model's own. -/
def namesOk (P : Program) : Bool := (P.funcs.all fun fn => fn.body.isNone || !(fn.name == "runtime.NumGoroutine")) && Nat.ble P.funcs.size yieldF
theorem enters {f : FuncId} {fn : Func} {c : Code} (hn : namesOk P = true) (hf : P.funcs[f]? = some fn) (hb : fn.body = some c) (args : Array Value) (w : World) : (callFunc f args).run P w = .ok (.enter f args) w := by
  unfold namesOk at hn
  simp only [Bool.and_eq_true] at hn
  have := Array.all_eq_true_iff_forall_mem.1 hn.1 fn (Array.mem_of_getElem? hf)
  rw [hb] at this
  simp only [Option.isNone_some, Bool.false_or, Bool.not_eq_true'] at this
  have h2 : ¬ fn.name = "runtime.NumGoroutine" := by simpa using this
  simp [callFunc, hf, hb, h2]
theorem notY {f : FuncId} (hn : namesOk P = true) (hb : ((P.funcs[f]?).bind (·.body)).isSome = true) : Nat.beq f yieldF = false := by
  unfold namesOk at hn
  simp only [Bool.and_eq_true] at hn
  have h1 := Nat.le_of_ble_eq_true hn.2
  have h2 : f < P.funcs.size := by
    rcases Nat.lt_or_ge f P.funcs.size with h | h
    · exact h
    · rw [Array.getElem?_eq_none h] at hb; cases hb
  cases h3 : Nat.beq f yieldF with
  | false => rfl
  | true =>
    have h4 : f = yieldF := Nat.eq_of_beq_eq_true h3
    rw [h4] at h2
    exact absurd h2 (Nat.not_lt.2 h1)

/-- What is told of a loop: from these slots and blocks it leads to those. -/
structure LoopF where
  f : FuncId
  path : List Nat
  T : List SV
  H : Hp
  r : Res

def leT : List SV → List SV → Bool
  | [], [] => true
  | a :: l, b :: r => (b.isAny || a.same b) && leT l r
  | _, _ => false
def sameB : Blk → Blk → Bool := fun x y => sameL x.cells y.cells && (decide (x.elem = y.elem) && (x.ro == y.ro && (x.opn == y.opn && decide (x.abs = y.abs))))
def sameH : Hp → Hp → Bool
  | [], [] => true
  | none :: l, none :: r => sameH l r
  | some x :: l, some y :: r => sameB x y && sameH l r
  | _, _ => false
theorem sameB_eq {x y : Blk} (h : sameB x y = true) : x = y := by
  obtain ⟨a, b, c, d, e⟩ := x; obtain ⟨a', b', c', d', e'⟩ := y
  simp only [sameB, Bool.and_eq_true, decide_eq_true_eq, beq_iff_eq] at h
  obtain ⟨h1, h2, h3, h4, h5⟩ := h
  rw [sameL_eq _ _ h1, h2, h3, h4, h5]
theorem sameH_eq : ∀ {H K : Hp}, sameH H K = true → H = K
  | [], [], _ => rfl
  | none :: l, none :: r, h => by simp only [sameH] at h; rw [sameH_eq h]
  | some x :: l, some y :: r, h => by simp only [sameH, Bool.and_eq_true] at h; rw [sameB_eq h.1, sameH_eq h.2]
  | [], _ :: _, h => by cases h
  | _ :: _, [], h => by simp [sameH] at h
  | none :: _, some _ :: _, h => by cases h
  | some _ :: _, none :: _, h => by cases h
theorem leT_length : ∀ {T U : List SV}, leT T U = true → U.length = T.length
  | [], [], _ => rfl
  | a :: l, b :: r, h => by simp only [leT, Bool.and_eq_true] at h; simp [leT_length h.2]
  | [], _ :: _, h => by cases h
  | _ :: _, [], h => by cases h
theorem leT_get : ∀ {T U : List SV}, leT T U = true → ∀ t, (U.getD t uS).isAny = true ∨ U.getD t uS = T.getD t uS
  | [], [], _, t => .inr rfl
  | a :: l, b :: r, h, 0 => by
    simp only [leT, Bool.and_eq_true, Bool.or_eq_true] at h
    rcases h.1 with h1 | h1
    · exact .inl h1
    · exact .inr (SV.same_eq _ _ h1).symm
  | a :: l, b :: r, h, t + 1 => by
    simp only [leT, Bool.and_eq_true] at h
    exact leT_get h.2 t
  | [], _ :: _, h, _ => by cases h
  | _ :: _, [], h, _ => by cases h
theorem any_inside {v : SV} (h : v.isAny = true) (n : Nat) : v.inside n = true := by
  cases v <;> first | rfl | cases h
theorem TRel.le {σ : Sg} {n : Nat} {T U : List SV} {a : Act} (h : TRel ds ρ σ n T a) (hl : leT T U = true) : TRel ds ρ σ n U a := by
  refine ⟨fun t hn => ?_, fun v hv => ?_, by rw [h.size, leT_length hl], h.defers⟩
  · rcases leT_get hl t with e | e
    · rw [e] at hn; cases hn
    · rw [e] at hn ⊢; exact h.val t hn
  · obtain ⟨t, ht, rfl⟩ := List.mem_iff_getElem.1 hv
    have e : U[t] = U.getD t uS := by rw [List.getD_eq_getElem?_getD, List.getElem?_eq_getElem ht]; rfl
    rw [e]
    rcases leT_get hl t with e | e
    · exact any_inside e n
    · rw [e]; exact h.getD t

def samePath : List Nat → List Nat → Bool
  | [], [] => true
  | i :: p, j :: q => Nat.beq i j && samePath p q
  | _, _ => false
theorem samePath_eq : ∀ {p q : List Nat}, samePath p q = true → p = q
  | [], [], _ => rfl
  | i :: p, j :: q, h => by simp only [samePath, Bool.and_eq_true] at h; rw [Nat.eq_of_beq_eq_true h.1, samePath_eq h.2]
  | [], _ :: _, h => by cases h
  | _ :: _, [], h => by cases h
def findL : List LoopF → FuncId → List Nat → List SV → Hp → Option Res
  | [], _, _, _, _ => none
  | l :: L, f, p, T, H => if Nat.beq l.f f && (samePath l.path p && (leT T l.T && sameH H l.H)) then some l.r else findL L f p T H
theorem findL_mem : ∀ {L : List LoopF} {f : FuncId} {p : List Nat} {T : List SV} {H : Hp} {r : Res}, findL L f p T H = some r → ∃ l ∈ L, l.f = f ∧ l.path = p ∧ leT T l.T = true ∧ H = l.H ∧ l.r = r
  | [], _, _, _, _, _, h => by cases h
  | l :: L, f, p, T, H, r, h => by
    simp only [findL] at h
    split at h
    · rename_i e
      simp only [Bool.and_eq_true] at e
      cases h
      exact ⟨l, by simp, Nat.eq_of_beq_eq_true e.1, samePath_eq e.2.1, e.2.2.1, sameH_eq e.2.2.2, rfl⟩
    · obtain ⟨l', h1, h2⟩ := findL_mem h
      exact ⟨l', List.mem_cons_of_mem _ h1, h2⟩

def evLoop (body : List SV → Hp → Option Res) : Nat → List SV → Hp → Option Res
  | 0, _, _ => none
  | n + 1, T, H => match body T H with
    | some (.normal, T1, H1, W1) => (match evLoop body n T1 H1 with
      | some (e, T2, H2, W2) => some (e, T2, H2, addW W1 W2)
      | none => none)
    | r => r

/-- A range over a function: its record is laid, the function is called with yield. -/
def evRange (P : Program) (call : CallF) (f : FuncId) (p : List Nat) (T : List SV) (H : Hp) (g : Option SV) : Option (Ex × Hp × List Nat) := match g with
  | some (.func (.func fn) fs cs) => if Nat.beq fn yieldF || !(Nat.beq (recF (placeOf f p)) f && samePath (recP (placeOf f p)) p && ((P.funcs[fn]?).bind (·.body)).isSome) then none else (match call fn (fs ++ [.yld H.length] ++ cs) (H ++ [some (recB f p T)]) with
    | some (_, H2, W2) => (match getR H2 H.length with
      | some x => (match (stOf x).bind stEx with
        | some e => some (e, (endCall H uS (H2.set H.length none) (addW W2 [H.length])).2)
        | none => none)
      | none => none)
    | none => none)
  | _ => none
def evC (P : Program) (Γ : Facts) (Λ : List LoopF) (lf : Nat) (call : CallF) (f : FuncId) : Nat → List Nat → Code → List SV → Hp → Option Res
  | 0, _, _, _, _ => none
  | n + 1, p, c, T, H => match c with
    | .skip => some (.normal, T, H, [])
    | .label _ => some (.normal, T, H, [])
    | .region _ ops false => (evSeq P Γ call ops ops.toList T H).map fun r => (.normal, r)
    | .region _ ops true => (evDraw P Γ call ops T H).map fun r => (.normal, r)
    | .seq x y => (match evC P Γ Λ lf call f n (0 :: p) x T H with
      | some (.normal, T1, H1, W1) => (match evC P Γ Λ lf call f n (1 :: p) y T1 H1 with
        | some (e, T2, H2, W2) => some (e, T2, H2, addW W1 W2)
        | none => none)
      | r => r)
    | .cond c x y => (match evO T c with
      | some (.bool b) => (match res Γ b with
        | some true => evC P Γ Λ lf call f n (0 :: p) x T H
        | some false => evC P Γ Λ lf call f n (1 :: p) y T H
        | none => none)
      | _ => none)
    | .block id x => (match evC P Γ Λ lf call f n (0 :: p) x T H with
      | some (.exit id', r) => if id' = id then some (.normal, r) else some (.exit id', r)
      | r => r)
    | .loop x => (match findL Λ f p T H with
      | some r => some r
      | none => evLoop (evC P Γ Λ lf call f n (0 :: p) x) lf T H)
    | .exit id => some (.exit id, T, H, [])
    | .ret => some (.ret, T, H, [])
    | .scope x => evC P Γ Λ lf call f n (0 :: p) x T H
    | .rangeFunc g _ _ _ => (evRange P call f p T H (evO T g)).map fun r => (r.1, T, r.2.1, r.2.2)
    | _ => none

/-- A walk that leads to such an end. -/
def Leads (P : Program) (ρ : Env) (c : Code) (T : List SV) (H : Hp) (r : Res) : Prop :=
  ∀ (ro : Option Nat) (m B : Nat) (ds : List Deferred) (σ : Sg) (a : Act) (w : World) (Q : Exit → Act → World → Prop), TRel ds ρ σ H.length T a → HRel P ρ σ H w → Marks ro B ds w →
    (∀ ds' σ' a' w', Post P ρ σ σ' H r.2.2.1 r.2.2.2 w w' → TRel ds' ρ σ' r.2.2.1.length r.2.1 a' → Marks ro B ds' w' → Q r.1.out a' w') → c.wpIn (Rn ro) m P Q a w

/-- A fact about a loop is true. -/
def LoopF.Ok (P : Program) (ρ : Env) (l : LoopF) : Prop := ∀ x, codeAt P l.f l.path = some (.loop x) → Leads P ρ (.loop x) l.T l.H l.r

theorem Leads.seq {ro : Option Nat} {m B : Nat} {x y : Code} {T T1 : List SV} {H H1 : Hp} {W1 : List Nat} {e : Ex} {T2 : List SV} {H2 : Hp} {W2 : List Nat} (h1 : Leads P ρ x T H (.normal, T1, H1, W1)) {Q : Exit → Act → World → Prop} {σ : Sg} {a : Act} {w : World}
    {next : Act → World → Prop} (hT : TRel ds ρ σ H.length T a) (hr : HRel P ρ σ H w) (hM : Marks ro B ds w)
    (h2 : ∀ ds1 σ1 a1 w1, Post P ρ σ σ1 H H1 W1 w w1 → TRel ds1 ρ σ1 H1.length T1 a1 → Marks ro B ds1 w1 → next a1 w1) : x.wpIn (Rn ro) m P (Exit.then next Q) a w :=
  h1 ro m B ds σ a w _ hT hr hM h2

theorem evLoop_ok {c : Code} {body : List SV → Hp → Option Res} (hb : ∀ T H r, body T H = some r → Leads P ρ c T H r) : ∀ (n : Nat) (T : List SV) (H : Hp) (r : Res), evLoop body n T H = some r →
    ∀ (ro : Option Nat) (m B : Nat) (ds : List Deferred) (σ : Sg) (a : Act) (w : World) (Q : Exit → Act → World → Prop), TRel ds ρ σ H.length T a → HRel P ρ σ H w → Marks ro B ds w →
    (∀ ds' σ' a' w', Post P ρ σ σ' H r.2.2.1 r.2.2.2 w w' → TRel ds' ρ σ' r.2.2.1.length r.2.1 a' → Marks ro B ds' w' → Q r.1.out a' w') → Code.roundsIn (Rn ro) m P c Q n a w
  | 0, T, H, r, h, _, _, _, _, _, _, _, _, _, _, _, _ => by cases h
  | n + 1, T, H, r, h, ro, m, B, ds, σ, a, w, Q, hT, hr, hM, hQ => by
    rw [roundsIn_succ]
    simp only [evLoop] at h
    split at h
    · rename_i T1 H1 W1 h1
      split at h
      · rename_i e T2 H2 W2 h2
        cases h
        refine hb _ _ _ h1 ro m B ds σ a w _ hT hr hM fun ds1 σ1 a1 w1 hp hT1 hM1 => ?_
        exact evLoop_ok hb n _ _ _ h2 ro m B ds1 σ1 a1 w1 Q hT1 hp.rel hM1 fun ds' σ' a' w' hp' hT' hM' => hQ ds' σ' a' w' ((hp.trans hp').mono fun b hb => addW_mem hb) hT' hM'
      · cases h
    · rename_i hne
      obtain ⟨e, T1, H1, W1⟩ := r
      refine hb _ _ _ h ro m B ds σ a w _ hT hr hM fun ds' σ' a' w' hp hT' hM' => ?_
      have := hQ ds' σ' a' w' hp hT' hM'
      cases e with
      | normal => exact absurd h (hne T1 H1 W1)
      | exit id => exact this
      | ret => exact this

theorem stepR_scope {b : Frame} {a : Act} {k : List Item} {cs : List Frame} {w : World} {c : Code} : step P (lone (b.atR a (.code (.scope c) :: k)) cs w) = .next (lone (b.atR a (.code c :: .inScope c :: k)) cs w) :=
  step_lone_go (by simp [stepG, stepG.exec, Frame.atR])
theorem stepR_inScope {b : Frame} {a : Act} {k : List Item} {cs : List Frame} {w : World} {c : Code} : step P (lone (b.atR a (.inScope c :: k)) cs w) = .next (lone (b.atR a k) cs w) :=
  step_lone_go (by simp [stepG, stepG.exec, Frame.atR])
theorem wpIn_scope_straight {F : Fence} {n : Nat} {Q : Exit → Act → World → Prop} {a : Act} {w : World} {c : Code} (h : c.wpIn F n P (Exit.noGoto Q) a w) : (Code.scope c).wpIn F n P Q a w := by
  intro b k cs hro hb hr
  have h0 : (lone (b.atR a (.code (.scope c) :: k)) cs w).fenced P F := fenced_calm hb hr rfl
  obtain ⟨e, a₁, w₁, hq, harr⟩ := h b (.inScope c :: k) cs hro hb hr
  cases e with
  | normal => exact ⟨.normal, a₁, w₁, hq, .head h0 stepR_scope (StepsIn.trans harr (.one (fenced_calm hb hr rfl) stepR_inScope))⟩
  | exit id =>
    have hx : exitTo id (.inScope c :: k) = exitTo id k := by simp [exitTo]
    exact ⟨.exit id, a₁, w₁, hq, fun k' hk => .head h0 stepR_scope (harr.1 k' (by rw [hx]; exact hk)),
      fun hr' hk => let ⟨k₁, h1, h2⟩ := harr.2 hr' (by rw [hx]; exact hk); ⟨k₁, h1, .head h0 stepR_scope h2⟩⟩
  | goto l => exact hq.elim
  | ret => exact ⟨_, a₁, w₁, hq, .of_steps (.one h0 stepR_scope) harr⟩
  | panic ch => exact ⟨_, a₁, w₁, hq, .of_steps (.one h0 stepR_scope) harr⟩
  | outgrown => exact ⟨_, a₁, w₁, hq, .of_steps (.one h0 stepR_scope) harr⟩
theorem evC_ok (hm : P.follows .mixedOrders = true) (hn : namesOk P = true) (hΓ : Γ.Holds P ρ) {Λ : List LoopF} (hΛ : ∀ l ∈ Λ, l.Ok P ρ) {lf : Nat} {call : CallF} (hc : CallOk P ρ call) {f : FuncId} : ∀ (n : Nat) (p : List Nat) (c : Code) (T : List SV) (H : Hp) (r : Res), codeAt P f p = some c → evC P Γ Λ lf call f n p c T H = some r → Leads P ρ c T H r
  | 0, p, c, T, H, r, hp, h => by cases h
  | n + 1, p, c, T, H, r, hp, h => by
    intro ro m B ds σ a w Q hT hr hM hQ
    cases c <;> simp only [evC] at h
    case skip => cases h; exact wpIn_skip (hQ ds σ a w (Post.refl hr) hT hM)
    case label l => cases h; exact wpIn_label (hQ ds σ a w (Post.refl hr) hT hM)
    case exit id => cases h; exact wpIn_exit (hQ ds σ a w (Post.refl hr) hT hM)
    case ret => cases h; exact wpIn_ret (hQ ds σ a w (Post.refl hr) hT hM)
    case region id ops d =>
      cases d with
      | false =>
        simp only at h
        obtain ⟨⟨T1, H1, W1⟩, h1, rfl⟩ := Option.map_eq_some_iff.1 h
        exact wpIn_region_list (seq_ok hΓ hc _ _ _ _ _ _ h1 σ a w hT hr fun σ' a' w' hp hT' => hQ ds σ' a' w' hp hT' (hM.post hp))
      | true =>
        simp only at h
        obtain ⟨⟨T1, H1, W1⟩, h1, rfl⟩ := Option.map_eq_some_iff.1 h
        exact draw_ok hm hΓ hc h1 hT hr fun σ' a' w' hp hT' => hQ ds σ' a' w' hp hT' (hM.post hp)
    case seq x y =>
      refine wpIn_seq ?_
      split at h
      · rename_i T1 H1 W1 h1
        split at h
        · rename_i e T2 H2 W2 h2
          cases h
          refine evC_ok hm hn hΓ hΛ hc n _ _ _ _ _ (codeAt_child (i := 0) hp rfl) h1 ro m B ds σ a w _ hT hr hM fun ds1 σ1 a1 w1 hp1 hT1 hM1 => ?_
          exact evC_ok hm hn hΓ hΛ hc n _ _ _ _ _ (codeAt_child (i := 1) hp rfl) h2 ro m B ds1 σ1 a1 w1 Q hT1 hp1.rel hM1 fun ds' σ' a' w' hp' hT' hM' => hQ ds' σ' a' w' ((hp1.trans hp').mono fun b hb => addW_mem hb) hT' hM'
        · cases h
      · rename_i hne
        obtain ⟨e, T1, H1, W1⟩ := r
        refine evC_ok hm hn hΓ hΛ hc n _ _ _ _ _ (codeAt_child (i := 0) hp rfl) h ro m B ds σ a w _ hT hr hM fun ds' σ' a' w' hp hT' hM' => ?_
        have := hQ ds' σ' a' w' hp hT' hM'
        cases e with
        | normal => exact absurd h (hne T1 H1 W1)
        | exit id => exact this
        | ret => exact this
    case cond c x y =>
      split at h
      · rename_i b hb
        obtain ⟨e, _⟩ := evO_den hT hb
        split at h
        · rename_i hres
          exact wpIn_cond_true (by rw [e]; simp [SV.den, res_den hΓ hres]) (evC_ok hm hn hΓ hΛ hc n _ _ _ _ _ (codeAt_child (i := 0) hp rfl) h ro m B ds σ a w Q hT hr hM hQ)
        · rename_i hres
          exact wpIn_cond_false (by rw [e]; simp [SV.den, res_den hΓ hres]) (evC_ok hm hn hΓ hΛ hc n _ _ _ _ _ (codeAt_child (i := 1) hp rfl) h ro m B ds σ a w Q hT hr hM hQ)
        · cases h
      · cases h
    case block id x =>
      refine wpIn_block ?_
      split at h
      · rename_i id' T1 H1 h1
        split at h
        · rename_i hid
          cases h
          refine evC_ok hm hn hΓ hΛ hc n _ _ _ _ _ (codeAt_child (i := 0) hp rfl) h1 ro m B ds σ a w _ hT hr hM fun ds' σ' a' w' hp hT' hM' => ?_
          simp only [Ex.out, Exit.inBlock, hid, if_true]
          exact hQ ds' σ' a' w' hp hT' hM'
        · rename_i hid
          cases h
          refine evC_ok hm hn hΓ hΛ hc n _ _ _ _ _ (codeAt_child (i := 0) hp rfl) h1 ro m B ds σ a w _ hT hr hM fun ds' σ' a' w' hp hT' hM' => ?_
          simp only [Ex.out, Exit.inBlock, hid, if_false]
          exact hQ ds' σ' a' w' hp hT' hM'
      · rename_i hne
        obtain ⟨e, r⟩ := r
        refine evC_ok hm hn hΓ hΛ hc n _ _ _ _ _ (codeAt_child (i := 0) hp rfl) h ro m B ds σ a w _ hT hr hM fun ds' σ' a' w' hp hT' hM' => ?_
        have := hQ ds' σ' a' w' hp hT' hM'
        cases e with
        | normal => exact this
        | exit id => exact absurd h (hne id r)
        | ret => exact this
    case loop x =>
      split at h
      · rename_i r' hl
        cases h
        obtain ⟨l, h1, rfl, rfl, h2, rfl, rfl⟩ := findL_mem hl
        exact hΛ l h1 x hp ro m B ds σ a w Q (hT.le h2) hr hM hQ
      · exact wpIn_loop_rounds lf (evLoop_ok (fun T H r h => evC_ok hm hn hΓ hΛ hc n _ x T H r (codeAt_child (i := 0) hp rfl) h) lf T H r h ro m B ds σ a w Q hT hr hM hQ)
    case scope x =>
      refine wpIn_scope_straight ?_
      obtain ⟨e, r⟩ := r
      refine evC_ok hm hn hΓ hΛ hc n _ _ _ _ _ (codeAt_child (i := 0) hp rfl) h ro m B ds σ a w _ hT hr hM fun ds' σ' a' w' hp hT' hM' => ?_
      have := hQ ds' σ' a' w' hp hT' hM'
      cases e <;> exact this
    case rangeFunc g ps assign body =>
      obtain ⟨r', h0, rfl⟩ := Option.map_eq_some_iff.1 h
      clear h
      have h := h0
      clear h0
      unfold evRange at h
      split at h
      · rename_i fn fs cs hg
        split at h
        · cases h
        rename_i hcond
        simp only [Bool.or_eq_true, Bool.not_eq_true', not_or, Bool.and_eq_true, Bool.not_eq_false] at hcond
        obtain ⟨hy, ⟨hf1, hf2⟩, hbd⟩ := hcond
        have hy : Nat.beq fn yieldF = false := eq_false_of_ne_true hy
        have hf1 := Nat.eq_of_beq_eq_true hf1
        have hf2 := samePath_eq hf2
        obtain ⟨fnc, hfn⟩ : ∃ fnc, P.funcs[fn]? = some fnc := by
          cases hfn : P.funcs[fn]? with
          | none => rw [hfn] at hbd; cases hbd
          | some fnc => exact ⟨fnc, rfl⟩
        rw [hfn] at hbd
        obtain ⟨bd, hbd⟩ := Option.isSome_iff_exists.1 hbd
        simp only [Option.bind_some] at hbd
        split at h
        · rename_i v H2 W2 hcall
          split at h
          · rename_i x hx
            split at h
            · rename_i e he
              simp only [Option.some.injEq] at h
              subst h
              obtain ⟨n0, hst, hex⟩ := Option.bind_eq_some_iff.1 he
              obtain ⟨eg, sg⟩ := evO_den hT hg
              obtain ⟨l, mark, w1, henter, hp1, hM1⟩ : ∃ (l : Nat) (mark : List Deferred) (w1 : FuncId → World), (∀ fn' : FuncId, ∃ w1', (Instr.enterLoop fn' a.tmps ps assign body ro).run P w = .ok (l, mark) w1' ∧ w1' = w1 fn') ∧ (∀ fn', Post P ρ σ (σ.snoc H.length l 0) H (H ++ [some (recB f p T)]) [] w (w1 fn')) ∧ ∀ fn', Marks ro B (mark ++ ds) (w1 fn') := by
                cases ro with
                | none =>
                  refine ⟨w.heap.size + 1, [markD w.heap.size], fun fn' => (w.alloc (.deferred (some []))).alloc (.loop { state := .ready, pending := none, fn := fn', tmps := a.tmps, params := ps, assign := assign, body := body, defers := w.heap.size }), fun fn' => ⟨_, run_enterLoop_outer fn' a.tmps ps assign body, rfl⟩, fun fn' => ?_, fun fn' => ?_⟩
                  · have e1 : ∀ k, k < w.heap.size → ((w.alloc (.deferred (some []))).alloc (.loop { state := .ready, pending := none, fn := fn', tmps := a.tmps, params := ps, assign := assign, body := body, defers := w.heap.size })).heap[k]? = w.heap[k]? := by
                      intro k hk
                      simp only [World.alloc, Array.getElem?_push, Array.size_push]
                      rw [if_neg (by omega), if_neg (by omega)]
                    refine rec_new (fn := fn') (D := w.heap.size) hr hT hp hf1 hf2 (Nat.le_succ _) ?_ rfl rfl rfl ?_ e1
                    · simp only [World.alloc, Array.getElem?_push, Array.size_push, if_true]
                    · simp only [World.alloc, Array.size_push]; omega
                  · obtain ⟨ld, q1, q2, q3⟩ := hM.all
                    refine ⟨(fun l' h' => by cases h'), ?_, w.heap.size :: ld, by rw [q1]; rfl, ?_, ?_⟩
                    · have := hM.le; simp only [World.alloc, Array.size_push]; omega
                    · refine List.nodup_cons.2 ⟨fun hin => ?_, q2⟩
                      have := (Array.getElem?_eq_some_iff.1 (q3 _ hin).2).1
                      omega
                    · intro D hD
                      rcases List.mem_cons.1 hD with rfl | hD
                      · refine ⟨hM.le, ?_⟩
                        simp only [World.alloc, Array.getElem?_push, Array.size_push, if_true]
                        rw [if_neg (by omega)]
                      · obtain ⟨r1, r2⟩ := q3 D hD
                        have := (Array.getElem?_eq_some_iff.1 r2).1
                        refine ⟨r1, ?_⟩
                        simp only [World.alloc, Array.getElem?_push, Array.size_push]
                        rw [if_neg (by omega), if_neg (by omega)]; exact r2
                | some l0 =>
                  obtain ⟨r0, hr0⟩ := hM.rd l0 rfl
                  have hrun : ∀ fn', (Instr.enterLoop fn' a.tmps ps assign body (some l0)).run P w = .ok (w.heap.size, []) (w.alloc (.loop { state := .ready, pending := none, fn := fn', tmps := a.tmps, params := ps, assign := assign, body := body, defers := r0.defers })) := by
                    intro fn'
                    simp only [Instr.enterLoop, Sem.run_bind, run_getLoop hr0, Result.andThen_ok, Sem.run_pure, run_newObj_alloc]
                  have hpost : ∀ fn', Post P ρ σ (σ.snoc H.length w.heap.size 0) H (H ++ [some (recB f p T)]) [] w (w.alloc (.loop { state := .ready, pending := none, fn := fn', tmps := a.tmps, params := ps, assign := assign, body := body, defers := r0.defers })) := by
                    intro fn'
                    refine rec_new (fn := fn') (D := r0.defers) hr hT hp hf1 hf2 (Nat.le_refl _) (World.alloc_heap_new _ _) rfl rfl rfl ?_ fun k hk => ?_
                    · simp only [World.alloc, Array.size_push]; omega
                    · simp only [World.alloc, Array.getElem?_push]
                      rw [if_neg (by omega)]
                  exact ⟨w.heap.size, [], fun fn' => w.alloc (.loop { state := .ready, pending := none, fn := fn', tmps := a.tmps, params := ps, assign := assign, body := body, defers := r0.defers }), fun fn' => ⟨_, hrun fn', rfl⟩, hpost, fun fn' => hM.post (hpost fn')⟩
              refine wpIn_rangeFunc fun fn' _ => ?_
              obtain ⟨w1', hen, rfl⟩ := henter fn'
              have hp1 := hp1 fn'
              have hM1 := hM1 fn'
              generalize w1 fn' = w1 at *
              have hlt : H.length < (H ++ [some (recB f p T)]).length := by simp
              have hin : insideL (H ++ [some (recB f p T)]).length (fs ++ [.yld H.length] ++ cs) = true := by
                simp only [SV.inside, Bool.and_eq_true] at sg
                refine insideL_of fun v hv => ?_
                rcases List.mem_append.1 hv with hv | hv
                · rcases List.mem_append.1 hv with hv | hv
                  · exact SV.inside_mono (by simp) _ (insideL_mem sg.1 hv)
                  · simp only [List.mem_singleton] at hv; subst hv; exact decide_eq_true hlt
                · exact SV.inside_mono (by simp) _ (insideL_mem sg.2 hv)
              have hcl := hc fn _ _ _ hcall _ _ hp1.rel hin
              rw [callY_ne hy, enters hn hfn hbd] at hcl
              have hcl : Calls P fn (denL ρ (σ.snoc H.length l 0) (fs ++ [.yld H.length] ++ cs)).toArray w1 _ := hcl
              have hag := σ.snoc_agree H.length l 0
              have eargs : (denL ρ (σ.snoc H.length l 0) (fs ++ [.yld H.length] ++ cs)).toArray = (denL ρ σ fs).toArray ++ #[.func (.yield l) #[] #[]] ++ (denL ρ σ cs).toArray := by
                simp only [SV.inside, Bool.and_eq_true] at sg
                rw [denL_append, denL_append, denL_agree hag _ sg.1, denL_agree hag _ sg.2]
                simp [denL, SV.den, Sg.snoc_blk]
              refine ⟨l, mark, w1, { target := .fn (.func fn) (denL ρ σ cs).toArray, args := (denL ρ σ fs).toArray ++ #[.func (.yield l) #[] #[]] }, w1, fn, (denL ρ σ fs).toArray ++ #[.func (.yield l) #[] #[]] ++ (denL ρ σ cs).toArray, w1, hen, ?_, fun _ _ => trivial, ?_, fun h => (by cases h), ?_⟩
              · simp only [resolve, rangeCall, eg, SV.den, Deferred.ofValue]
                simp [Act.eval]
              · simp only [invoke]
                exact enters hn hfn hbd _ _
              · rw [← eargs]
                refine callsRn (Calls.mono hcl fun e' w3 ⟨v', he', σ2, hp2, _, _⟩ => ?_)
                subst he'
                obtain ⟨hgx, r, gg, st, v0, T', k1, k2, k3, k4, k5, k6, k7, k8⟩ := rec_at hp2.rel hx
                have en0 := stOf_st hst k3 k5
                subst en0
                obtain ⟨hbusy, hpend⟩ := stEx_ok hex k6
                have ebl : σ2.blk H.length = l := by rw [(hp2.ext _ hlt).1, Sg.snoc_blk]
                have hp3 := rec_drop hp2.rel hx k1 { r with state := .exhausted }
                rw [ebl] at k1 hp3
                have hp4 := hp2.trans hp3
                have hM4 := hM1.post hp4
                have hp5 := (hp1.trans hp4).mono (W' := addW W2 [H.length]) fun b hb => addW_mem (by simpa using hb)
                obtain ⟨σ3, hp6, _, _⟩ := endCall_ok hr hp5 (v := uS) rfl
                refine ⟨e.jump, _, by rw [← hpend]; exact run_endLoop k1 hbusy, ?_⟩
                have hT' : TRel (mark ++ ds) ρ σ3 (endCall H uS (H2.set H.length none) (addW W2 [H.length])).2.1.length T { a with defers := mark ++ a.defers } := by
                  have := hT.mono hp6.ext hp6.len
                  exact ⟨this.val, this.ins, this.size, by rw [← hT.defers]⟩
                have hq := hQ (mark ++ ds) σ3 { a with defers := mark ++ a.defers } _ hp6 hT' hM4
                cases e with
                | normal => exact hq
                | ret => exact wpIn_ret hq
                | exit k => exact wpIn_exit hq
            · cases h
          · cases h
        · cases h
      · cases h
    all_goals cases h
/-- The slots at a round's beginning. -/
def putArgs : List Nat → List SV → List SV → List SV
  | t :: ps, v :: vs, T => putArgs ps vs (T.set t v)
  | _, _, T => T
theorem putArgs_ok {σ : Sg} {n : Nat} : ∀ (ps : List Nat) (vs : List SV) (T : List SV) (tmps : Array Value), TRel [] ρ σ n T { tmps := tmps, defers := [] } → insideL n vs = true → TRel [] ρ σ n (putArgs ps vs T) { tmps := (ps.zip (denL ρ σ vs)).foldl (fun tmps (t, a) => tmps.setIfInBounds t a) tmps, defers := [] }
  | [], vs, T, tmps, h, _ => by simpa [putArgs] using h
  | t :: ps, [], T, tmps, h, _ => by simpa [putArgs, denL] using h
  | t :: ps, v :: vs, T, tmps, h, hv => by
    simp only [insideL, Bool.and_eq_true] at hv
    have := h.put (v := v) (fun _ _ => ⟨rfl, rfl, rfl, rfl⟩) (Nat.le_refl _) hv.1 (some t)
    simp only [stepT, Act.put] at this
    simp only [putArgs, denL, List.zip_cons_cons, List.foldl_cons]
    exact putArgs_ok ps vs _ _ this hv.2
/-- What a call of yield does: a round. -/
def evYield (P : Program) (ev : FuncId → List Nat → Code → List SV → Hp → Option Res) (args : List SV) (H : Hp) : Option Out := match args with
  | .yld b :: vs => (match getR H b with
    | some x => (match codeAt P (recF x.elem) (recP x.elem) with
      | some (.rangeFunc _ ps assign body) => if stOf x = some 0 ∧ vs.length = ps.size then (match ev (recF x.elem) (0 :: recP x.elem) assign (putArgs ps.toList vs x.cells.tail) H with
        | some (.normal, T2, H2, W2) => (match getR H2 b with
          | some x2 => if stOf x2 = some 0 ∧ x2.elem = x.elem then (match ev (recF x.elem) (1 :: recP x.elem) body T2 (H2.set b (some (setSt x2 1))) with
            | some (e, _, H4, W4) => (match getR H4 b with
              | some x4 => if x4.elem = x.elem then some (endCall H (.bool (.lit e.isN)) (H4.set b (some (setSt x4 (exSt e)))) (addW (addW (addW W2 [b]) W4) [b])) else none
              | none => none)
            | none => none) else none
          | none => none)
        | _ => none) else none
      | _ => none)
    | none => none)
  | _ => none
theorem evYield_ok {ev : FuncId → List Nat → Code → List SV → Hp → Option Res} (hev : ∀ f p c T H r, codeAt P f p = some c → ev f p c T H = some r → Leads P ρ c T H r) {args : List SV} {H : Hp} {r : Out} (h : evYield P ev args H = some r)
    {σ : Sg} {w : World} (hr : HRel P ρ σ H w) (hin : insideL H.length args = true) : ORes P ((callY yieldF (denL ρ σ args)).run P w) (Good P ρ σ H r w) := by
  unfold evYield at h
  split at h
  · rename_i b vs
    split at h
    · rename_i x hx
      split at h
      · rename_i g ps assign body hcode
        split at h
        · rename_i hc
          obtain ⟨hst, hlen⟩ := hc
          split at h
          · rename_i T2 H2 W2 h1
            split at h
            · rename_i x2 hx2
              split at h
              · rename_i hc2
                obtain ⟨hst2, hel2⟩ := hc2
                split at h
                · rename_i e T4 H4 W4 h2
                  split at h
                  · rename_i x4 hx4
                    split at h
                    · rename_i hel4
                      cases h
                      simp only [insideL, Bool.and_eq_true] at hin
                      obtain ⟨hgx, r, gg, st, v0, T', k1, k2, k3, k4, k5, k6, k7, k8⟩ := rec_at hr hx
                      rw [hcode] at k2
                      cases k2
                      have en0 := stOf_st hst k3 k5
                      simp only [callY, denL, SV.den, if_true]
                      rw [run_yield k1 (by simp [denL_length, hlen])]
                      intro ro n
                      have hxi := (hr.blk b x (getR_some hx).1).1
                      rw [k3] at hxi
                      simp only [insideL, Bool.and_eq_true] at hxi
                      refine roundIn_of_wpIn trivial ?_
                      have hT0 : TRel [] ρ σ H.length x.cells.tail { tmps := r.tmps, defers := [] } := by
                        rw [k3]
                        refine ⟨fun t hn => ?_, fun v hv => insideL_mem hxi.2 hv, k7, rfl⟩
                        simp only [List.tail_cons] at hn ⊢
                        by_cases ht : t < T'.length
                        · have e1 : T'[t]? = some (T'.getD t uS) := by rw [List.getD_eq_getElem?_getD, List.getElem?_eq_getElem ht]; rfl
                          exact k8 t _ e1 hn
                        · rw [List.getD_eq_getElem?_getD, List.getElem?_eq_none (by omega), Array.getD_eq_getD_getElem?, Array.getElem?_eq_none (by rw [k7]; omega)]; rfl
                      have hT1 := putArgs_ok r.params.toList vs _ _ hT0 hin.2
                      have etm : (r.params.zip (denL ρ σ vs).toArray).foldl (fun tmps (x : Tmp × Value) => tmps.setIfInBounds x.1 x.2) r.tmps = (r.params.toList.zip (denL ρ σ vs)).foldl (fun tmps (x : Nat × Value) => tmps.setIfInBounds x.1 x.2) r.tmps := by
                        rw [← Array.foldl_toList]; simp
                      have hin1 : (Rn ro).inRound (σ.blk b) = Rn (some (σ.blk b)) := rfl
                      rw [hin1]
                      have L1 := hev _ _ _ _ _ _ (codeAt_child (i := 0) hcode rfl) h1
                      refine L1 (some (σ.blk b)) n w.heap.size [] σ _ w _ (by rw [etm]; exact hT1) hr (Marks.round k1) fun ds1 σ1 a1 w1 hp1 hT1' hM1 => ?_
                      obtain ⟨hgx2, r2, gg2, st2, v2, T2', q1, q2, q3, q4, q5, q6, q7, q8⟩ := rec_at hp1.rel hx2
                      have ebl1 : σ1.blk b = σ.blk b := (hp1.ext b (of_decide_eq_true hin.1)).1
                      have en2 := stOf_st hst2 q3 q5
                      have en2 : st2 = 0 := by omega
                      subst en2
                      obtain ⟨hready, _⟩ := q6
                      have q1' := q1
                      rw [ebl1] at q1'
                      refine ⟨_, run_beginRound q1' hready, ?_⟩
                      have hp2 := rec_step (st := 1) hp1.rel hx2 q1 (r' := { r2 with state := .busy }) rfl rfl rfl rfl rfl
                      rw [ebl1] at hp2
                      have hlen2 : (H2.set b (some (setSt x2 1))).length = H2.length := by simp
                      have L2 := hev _ _ _ _ _ _ (codeAt_child (i := 1) hcode rfl) h2
                      refine L2 (some (σ.blk b)) n w.heap.size ds1 σ1 a1 _ _ (by rw [hlen2]; exact hT1') hp2.rel (hM1.post hp2) fun ds3 σ3 a3 w3 hp3 hT3 hM3 => ?_
                      obtain ⟨hgx4, r4, gg4, st4, v4, T4', z1, z2, z3, z4, z5, z6, z7, z8⟩ := rec_at hp3.rel hx4
                      have hlt2 : b < H2.length := (List.getElem?_eq_some_iff.1 (getR_some hx2).1).1
                      have ebl3 : σ3.blk b = σ.blk b := by rw [(hp3.ext b (by rw [hlen2]; exact hlt2)).1, ebl1]
                      have z1' := z1
                      rw [ebl3] at z1'
                      have hp4 := rec_step (st := exSt e) hp3.rel hx4 z1 (r' := { r4 with state := if e.jump.isNone then .ready else .done, pending := e.jump }) rfl rfl rfl rfl (by cases e <;> exact ⟨rfl, rfl⟩)
                      rw [ebl3] at hp4
                      have hp5 := (((hp1.trans hp2).trans hp3).trans hp4).mono (W' := addW (addW (addW W2 [b]) W4) [b]) fun c hc => addW_mem (by
                        rcases List.mem_append.1 hc with hc | hc
                        · refine List.mem_append_left _ (addW_mem ?_)
                          rcases List.mem_append.1 hc with hc | hc
                          · exact List.mem_append_left _ (addW_mem hc)
                          · exact List.mem_append_right _ hc
                        · exact List.mem_append_right _ hc)
                      have hend := endCall_ok hr hp5 (v := .bool (.lit e.isN)) rfl
                      have hrun := run_endRound (P := P) e.jump z1'
                      have eb : (Value.bool e.jump.isNone) = (SV.bool (.lit e.isN)).den ρ σ3 := by cases e <;> rfl
                      rw [eb] at hrun
                      cases e with
                      | normal => exact ⟨_, _, hrun, _, rfl, hend⟩
                      | ret => exact ⟨_, _, hrun, _, rfl, hend⟩
                      | exit k => exact ⟨_, _, hrun, _, rfl, hend⟩
                    · cases h
                  · cases h
                · cases h
              · cases h
            · cases h
          · cases h
        · cases h
      · cases h
    · cases h
  · cases h
end Go.Proofs.Ytgdhpgjfebinhaa.Ev
