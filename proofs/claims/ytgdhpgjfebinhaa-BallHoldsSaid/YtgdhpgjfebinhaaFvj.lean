/- The symbolic machine's regions: one operation after the other, in the order of the text. -/
import Derived.RangeFuncRecord
import Derived.Test.YtgdhpgjfebinhaaFvi
import Derived.Tactics
namespace Go.Proofs.Ytgdhpgjfebinhaa.Ev
set_option linter.unusedSimpArgs false
open Go Go.RowKit
set_option linter.unusedVariables false
variable {P : Program} {ρ : Env} {Γ : Facts}
variable {ds : List Deferred}

theorem Post.mono {σ σ' : Sg} {H H' : Hp} {W W' : List Nat} {w w' : World} (h : Post P ρ σ σ' H H' W w w') (hW : ∀ b ∈ W, b ∈ W') : Post P ρ σ σ' H H' W' w w' :=
  ⟨h.ext, h.len, h.rel, fun b h1 h2 hg => (h.new b h1 h2 hg).imp id fun ⟨c, hc, e⟩ => ⟨c, hW c hc, e⟩, h.os, h.tape, h.out, h.size, h.kd, fun k hk hb => h.frame k hk fun b hb' => hb b (hW b hb'), fun b hb hb' => h.kept b hb fun h' => hb' (hW b h')⟩
theorem Post.cut {σ σ' : Sg} {H H' : Hp} {W : List Nat} {w w' : World} (h : Post P ρ σ σ' H H' W w w') : Post P ρ σ σ' H H' (W.filter fun b => decide (b < H.length)) w w' :=
  ⟨h.ext, h.len, h.rel, fun b h1 h2 hg => (h.new b h1 h2 hg).imp id fun ⟨c, hc, e⟩ => ⟨c, List.mem_filter.2 ⟨hc, decide_eq_true e.1⟩, e⟩, h.os, h.tape, h.out, h.size, h.kd,
    fun k hk hb => h.frame k hk fun b hb' hlt => hb b (List.mem_filter.2 ⟨hb', decide_eq_true hlt⟩) hlt, fun b hb hb' => h.kept b hb fun h' => hb' (List.mem_filter.2 ⟨h', decide_eq_true hb⟩)⟩

def addW (W W' : List Nat) : List Nat := W ++ W'.filter fun b => !W.contains b
theorem addW_mem {W W' : List Nat} {b : Nat} (h : b ∈ W ++ W') : b ∈ addW W W' := by
  simp only [addW, List.mem_append, List.mem_filter] at h ⊢
  by_cases hb : b ∈ W
  · exact .inl hb
  · exact .inr ⟨h.resolve_left hb, by simpa using hb⟩

def stepT (T : List SV) (dst : Option Nat) (v : SV) : List SV := match dst with
  | some d => T.set d v
  | none => T
theorem stepT_length (T : List SV) (dst : Option Nat) (v : SV) : (stepT T dst v).length = T.length := by cases dst <;> simp [stepT]
theorem put_size (a : Act) (dst : Option Tmp) (v : Value) : (a.put dst v).tmps.size = a.tmps.size := by cases dst <;> simp [Act.put]
theorem put_defers (a : Act) (dst : Option Tmp) (v : Value) : (a.put dst v).defers = a.defers := by cases dst <;> rfl
theorem put_getD (a : Act) (T : List SV) (hs : a.tmps.size = T.length) (dst : Option Tmp) (v : Value) (u : SV) (t : Nat) :
    ((a.put dst v).tmps.getD t undef = v ∧ (stepT T dst u).getD t uS = u ∧ dst = some t) ∨ ((a.put dst v).tmps.getD t undef = a.tmps.getD t undef ∧ (stepT T dst u).getD t uS = T.getD t uS) := by
  cases dst with
  | none => exact .inr ⟨rfl, rfl⟩
  | some d =>
    by_cases e : d = t
    · subst e
      by_cases hd : d < T.length
      · refine .inl ⟨?_, ?_, rfl⟩
        · simp [Act.put, hs, hd]
        · simp [stepT, List.getD_eq_getElem?_getD, hd]
      · refine .inr ⟨?_, ?_⟩
        · simp [Act.put, hs, hd]
        · have hd' : T.length ≤ d := Nat.le_of_not_lt hd
          simp only [stepT]; rw [List.set_eq_of_length_le hd']
    · refine .inr ⟨?_, ?_⟩
      · simp [Act.put, Array.getElem?_setIfInBounds_ne e]
      · simp [stepT, List.getD_eq_getElem?_getD, List.getElem?_set_ne e]

theorem TRel.put {σ σ' : Sg} {n m : Nat} {T : List SV} {a : Act} (h : TRel ds ρ σ n T a) (ha : σ.agree n σ') (hm : n ≤ m) {v : SV} (hv : v.inside m = true) (dst : Option Tmp) : TRel ds ρ σ' m (stepT T dst v) (a.put dst (v.den ρ σ')) := by
  refine ⟨fun t hn => ?_, fun u hu => ?_, by rw [put_size, stepT_length, h.size], by rw [put_defers, h.defers]⟩
  · rcases put_getD a T h.size dst (v.den ρ σ') v t with ⟨e1, e2, _⟩ | ⟨e1, e2⟩
    · rw [e1, e2]
    · rw [e2] at hn; rw [e1, e2, h.val t hn, SV.den_agree ha _ (h.getD t)]
  · cases dst with
    | none => exact SV.inside_mono hm _ (h.ins u hu)
    | some d =>
      rcases List.mem_or_eq_of_mem_set hu with hu | rfl
      · exact SV.inside_mono hm _ (h.ins u hu)
      · exact hv
theorem TRel.mono {σ σ' : Sg} {n m : Nat} {T : List SV} {a : Act} (h : TRel ds ρ σ n T a) (ha : σ.agree n σ') (hm : n ≤ m) : TRel ds ρ σ' m T a :=
  h.put (v := uS) ha hm rfl none

theorem get?_of {σ : Sg} {T : List SV} {a : Act} (hs : a.tmps.size = T.length) {t : Nat} (h : a.tmps.getD t undef = (T.getD t uS).den ρ σ) : a.tmps[t]? = (T[t]?).map (·.den ρ σ) := by
  by_cases ht : t < T.length
  · rw [List.getD_eq_getElem?_getD, List.getElem?_eq_getElem ht] at h
    rw [List.getElem?_eq_getElem ht]
    simp [hs, ht] at h ⊢
    exact h
  · rw [List.getElem?_eq_none (by omega), Array.getElem?_eq_none (by omega)]; rfl

/-- Whether a guarded operation is wanted. -/
def evGuard (Γ : Facts) (ops : Array Oper) (T : List SV) : Option (Nat × Bool) → Option Bool
  | none => some true
  | some (j, want) => match (ops[j]?).bind (·.dst) with
    | none => some false
    | some t => match T[t]? with
      | some (.bool b) => (res Γ b).map (· == want)
      | some (.any _) => none
      | _ => some false
theorem guard_ok (hΓ : Γ.Holds P ρ) {ops : Array Oper} {T : List SV} {o : Oper} {g : Bool} (h : evGuard Γ ops T o.guard = some g) {σ : Sg} {a : Act}
    (hs : a.tmps.size = T.length) (hv : ∀ t ∈ o.looksAt ops, (T.getD t uS).isAny = false → a.tmps.getD t undef = (T.getD t uS).den ρ σ) : Region.wanted o (yielded ops a.tmps) = g := by
  unfold Region.wanted
  cases hg : o.guard with
  | none => rw [hg] at h; simp only [evGuard] at h; cases h; rfl
  | some jw =>
    obtain ⟨j, want⟩ := jw
    rw [hg] at h
    simp only [evGuard] at h
    simp only [yielded]
    cases hd : (ops[j]?).bind (·.dst) with
    | none => rw [hd] at h; simp only at h; cases h; simp
    | some t =>
      rw [hd] at h
      simp only at h
      have hin : t ∈ o.looksAt ops := by simp [Oper.looksAt, hg, hd]
      cases hT : T[t]? with
      | none =>
        have e := get?_of hs (hv t hin (by rw [List.getD_eq_getElem?_getD, hT]; rfl))
        rw [hT] at h e; simp only at h; cases h; simp [e]
      | some v =>
        by_cases hany : v.isAny = true
        · cases v <;> simp only [SV.isAny] at hany <;> first | (cases hany; done) | (rw [hT] at h; cases h)
        have e := get?_of hs (hv t hin (by rw [List.getD_eq_getElem?_getD, hT]; simpa using hany))
        rw [hT] at h e
        simp only [Option.bind_some, e]
        cases v <;> simp only at h
        case bool b =>
          obtain ⟨c, hc, rfl⟩ := Option.map_eq_some_iff.1 h
          simp [SV.den, res_den hΓ hc]
        case any i => cases h
        case asl b n =>
          cases h
          have hno : ∀ c : Bool, (SV.asl b n).den ρ σ ≠ .bool c := by intro c hc; simp only [SV.den] at hc; cases hg2 : σ.gh b <;> rw [hg2] at hc <;> cases hc
          cases hx : (SV.asl b n).den ρ σ <;> first | (exact absurd hx (hno _)) | simp [hx]
        case rsl b st lo hi =>
          cases h
          have hno : ∀ c : Bool, (SV.rsl b st lo hi).den ρ σ ≠ .bool c := by intro c hc; simp only [SV.den] at hc; cases hg2 : σ.gh b <;> rw [hg2] at hc <;> cases hc
          cases hx : (SV.rsl b st lo hi).den ρ σ <;> first | (exact absurd hx (hno _)) | simp [hx]
        all_goals
          cases h
          simp [SV.den]

def evSeq (P : Program) (Γ : Facts) (call : CallF) (ops : Array Oper) : List Oper → List SV → Hp → Option (List SV × Hp × List Nat)
  | [], T, H => some (T, H, [])
  | o :: l, T, H => match evGuard Γ ops T o.guard with
    | some true => (match evOp P Γ call T H o with
      | some (v, H1, W1) => (match evSeq P Γ call ops l (stepT T o.dst v) H1 with
        | some (T2, H2, W2) => some (T2, H2, addW W1 W2)
        | none => none)
      | none => none)
    | some false => evSeq P Γ call ops l (stepT T o.dst uS) H
    | none => none

theorem seq_ok {ro : Option Nat} {m : Nat} (hΓ : Γ.Holds P ρ) {call : CallF} (hc : CallOk P ρ call) {ops : Array Oper} {Q : Exit → Act → World → Prop} : ∀ (l : List Oper) (T : List SV) (H : Hp) (T' : List SV) (H' : Hp) (W' : List Nat), evSeq P Γ call ops l T H = some (T', H', W') →
    ∀ (σ : Sg) (a : Act) (w : World), TRel ds ρ σ H.length T a → HRel P ρ σ H w → (∀ σ' a' w', Post P ρ σ σ' H H' W' w w' → TRel ds ρ σ' H'.length T' a' → Q .normal a' w') → wpListIn (Rn ro) m P ops Q l a w
  | [], T, H, T', H', W', h, σ, a, w, hT, hr, hQ => by
    simp only [evSeq] at h; cases h
    exact hQ σ a w (Post.refl hr) hT
  | o :: l, T, H, T', H', W', h, σ, a, w, hT, hr, hQ => by
    simp only [evSeq] at h
    unfold wpListIn
    split at h
    · rename_i hg
      rw [if_pos (guard_ok hΓ hg hT.size fun t _ => hT.val t)]
      split at h
      · rename_i v H1 W1 ho
        split at h
        · rename_i T2 H2 W2 hl
          cases h
          refine (evOp_ok hΓ hc ho hT hr).wp (evOp_defer ho) fun u w1 ⟨σ1, hp, hu, hv⟩ => ?_
          subst hu
          refine seq_ok hΓ hc l _ _ _ _ _ hl σ1 _ w1 (hT.put hp.ext hp.len hv o.dst) hp.rel fun σ' a' w' hp' hT' => ?_
          exact hQ σ' a' w' ((hp.trans hp').mono fun b hb => addW_mem hb) hT'
        · cases h
      · cases h
    · rename_i hg
      rw [if_neg (by rw [guard_ok hΓ hg hT.size fun t _ => hT.val t]; decide)]
      refine ⟨fun _ _ => trivial, ?_⟩
      exact seq_ok hΓ hc l _ _ _ _ _ h σ _ w (hT.put (v := uS) (fun _ _ => ⟨rfl, rfl, rfl, rfl⟩) (Nat.le_refl _) rfl o.dst) hr hQ
    · cases h

/-- The marks of ranges over functions among the deferred calls: each names a block of its own, laid since the heap had B blocks, with no call in it. -/
def markD (D : Nat) : Deferred := { target := .collected D, args := #[] }
structure Marks (ro : Option Nat) (B : Nat) (ds : List Deferred) (w : World) : Prop where
  rd : ∀ l, ro = some l → ∃ r, w.heap[l]? = some (Obj.loop r)
  le : B ≤ w.heap.size
  all : ∃ l : List Nat, ds = l.map markD ∧ l.Nodup ∧ ∀ D ∈ l, B ≤ D ∧ w.heap[D]? = some (Obj.deferred (some []))
theorem Marks.none {w : World} : Marks none w.heap.size [] w := ⟨(fun l h => by cases h), Nat.le_refl _, [], rfl, List.nodup_nil, fun _ h => by cases h⟩
theorem Marks.round {w : World} {l : Nat} {r : Loop} (h : w.heap[l]? = some (Obj.loop r)) : Marks (some l) w.heap.size [] w := ⟨(fun l' h' => by cases h'; exact ⟨r, h⟩), Nat.le_refl _, [], rfl, List.nodup_nil, fun _ h => by cases h⟩
theorem Marks.post {ro : Option Nat} {B : Nat} {σ σ' : Sg} {H H' : Hp} {W : List Nat} {w w' : World} (h : Marks ro B ds w) (hp : Post P ρ σ σ' H H' W w w') : Marks ro B ds w' := by
  obtain ⟨l, h1, h2, h3⟩ := h.all
  exact ⟨fun k hk => let ⟨r, hr⟩ := h.rd k hk; hp.kd.l k r hr, Nat.le_trans h.le hp.size, l, h1, h2, fun D hD => ⟨(h3 D hD).1, hp.kd.d D [] (h3 D hD).2⟩⟩
theorem Post.close {σ σ' : Sg} {H H' : Hp} {W : List Nat} {w0 w : World} (h : Post P ρ σ σ' H H' W w0 w) {D : Nat} {x : Option (List Deferred)} (hD : w.heap[D]? = some (Obj.deferred x)) (hb : w0.heap.size ≤ D) : Post P ρ σ σ' H H' W w0 (w.putObj D (.deferred none)) := by
  have hne : ∀ b x', H'[b]? = some (some x') → σ'.gh b = none → σ'.blk b ≠ D := fun b x' hb hg e => h.rel.notDef hb hg (e ▸ hD)
  refine ⟨h.ext, h.len, ⟨fun b x' hb' => ?_, h.rel.inj⟩, h.new, h.os, h.tape, h.out, by rw [World.putObj_size]; exact h.size, ⟨fun k ds hk => ?_, fun k r hk => ?_⟩, fun k hk hW => ?_, h.kept⟩
  · obtain ⟨h1, h2⟩ := h.rel.blk b x' hb'
    exact ⟨h1, h2.to rfl fun hg => World.putObj_heap_other (hne b x' hb' hg)⟩
  · have := (Array.getElem?_eq_some_iff.1 hk).1
    rw [World.putObj_heap_other (by omega)]
    exact h.kd.d k ds hk
  · have := (Array.getElem?_eq_some_iff.1 hk).1
    rw [World.putObj_heap_other (by omega)]
    exact h.kd.l k r hk
  · rw [World.putObj_heap_other (by omega)]
    exact h.frame k hk hW
/-- A function leaves with its marks. -/
theorem leaves_marks {F : Fence} {n : Nat} {fn : Func} {tmps : Array Value} {R : Ending → World → Prop} {σ σ' : Sg} {H H' : Hp} {W : List Nat} {w0 : World} (hR : ∀ w, Post P ρ σ σ' H H' W w0 w → ∃ v, (results fn tmps).run P w = .ok v w ∧ R (.returned v) w) :
    ∀ (l : List Nat) (w : World), l.Nodup → (∀ D ∈ l, w0.heap.size ≤ D ∧ w.heap[D]? = some (Obj.deferred (some []))) → Post P ρ σ σ' H H' W w0 w → LeavesInM F n P fn tmps R (l.map markD) .returning w
  | [], w, _, _, hp => by
    have := hR w hp
    simpa [LeavesInM, LeavesIn] using this
  | D :: l, w, hn, hl, hp => by
    obtain ⟨h1, h2⟩ := List.nodup_cons.1 hn
    obtain ⟨g1, g2⟩ := hl D (by simp)
    refine ⟨by simp, .inl ⟨D, _, rfl, run_takeDeferred g2, ?_⟩⟩
    refine leaves_marks hR l _ h2 (fun E hE => ?_) (hp.close g2 g1)
    obtain ⟨q1, q2⟩ := hl E (by simp [hE])
    exact ⟨q1, by rw [World.putObj_heap_other (by rintro rfl; exact h1 hE)]; exact q2⟩
theorem Marks.leaves {ro : Option Nat} {F : Fence} {n : Nat} {fn : Func} {tmps : Array Value} {R : Ending → World → Prop} {σ σ' : Sg} {H H' : Hp} {W : List Nat} {w0 w : World} (h : Marks ro w0.heap.size ds w) (hp : Post P ρ σ σ' H H' W w0 w) (hR : ∀ w, Post P ρ σ σ' H H' W w0 w → ∃ v, (results fn tmps).run P w = .ok v w ∧ R (.returned v) w) : LeavesInM F n P fn tmps R ds .returning w := by
  obtain ⟨l, rfl, h2, h3⟩ := h.all
  exact leaves_marks hR l w h2 h3 hp
end Go.Proofs.Ytgdhpgjfebinhaa.Ev
