/- Regions that draw their order: one operation, whenever it comes up. -/
import Derived.Test.YtgdhpgjfebinhaaFvl
namespace Go.Proofs.Ytgdhpgjfebinhaa.Ev
set_option linter.unusedSimpArgs false
open Go Go.RowKit
set_option linter.unusedVariables false
set_option linter.unusedSectionVars false
variable {P : Program} {ρ : Env} {Γ : Facts}
variable {ds : List Deferred}

theorem mem_WAll {L : List TrI} {i : Nat} {x : TrI} (hx : L[i]? = some x) {b : Nat} (hb : b ∈ x.W) : b ∈ WAll L := List.mem_flatMap.2 ⟨x, List.mem_of_getElem? hx, hb⟩

section
variable {call : CallF} {ops : Array Oper} {L : List TrI} {TN : List SV} {HN : Hp} (R : Reg P Γ call ops L TN HN) {D : Nat → Bool} {j : Nat} (hj : j < ops.size) (hD : D j = false) (hO : Ordered ops L D j)
include R hj hD hO

/-- What an operation looks at is as in the order of the text. -/
theorem Reg.seesT {o : Oper} (ho : ops[j]? = some o) {t : Nat} (ht : t ∈ o.looksAt ops ∨ o.dst = some t) : cont D (wT ops t) (vT L TN t) ops.size = vT L TN t j := by
  rw [cont_later (j := j) ops.size (by omega), cont_now j]
  · exact fun i hi hw => (R.ordT hj hD hO ho ht (by omega) (by omega) hw).1 hi
  · exact fun i hi hw => R.chainT (by omega) hw
  · intro i hi hn hw
    by_cases e : i = j
    · rw [e]; exact hD
    · exact (R.ordT hj hD hO ho ht hn e hw).2 (by omega)
theorem Reg.seesB {x : TrI} (hx : L[j]? = some x) {b : Nat} (hb : b ∈ x.M) : cont D (wB L b) (vB L HN b) ops.size = vB L HN b j := by
  rw [cont_later (j := j) ops.size (by omega), cont_now j]
  · exact fun i hi hw => (R.ordB hj hD hO hx hb (by omega) (by omega) hw).1 hi
  · exact fun i hi hw => R.chainB (by omega) hw
  · intro i hi hn hw
    by_cases e : i = j
    · rw [e]; exact hD
    · exact (R.ordB hj hD hO hx hb hn e hw).2 (by omega)
/-- What it wrote is there behind it. -/
theorem Reg.leftT {o : Oper} (ho : ops[j]? = some o) {t : Nat} (ht : o.dst = some t) : cont (addD D j) (wT ops t) (vT L TN t) ops.size = vT L TN t (j + 1) := by
  have hw : wT ops t j = true := by simp [wT, ho, ht]
  rw [cont_later (j := j + 1) ops.size (by omega)]
  · simp only [cont]; rw [if_pos ⟨addD_self _ _, hw⟩]
  · intro i hi hn hw'
    rw [addD_ne (by omega)]
    exact (R.ordT hj hD hO ho (.inr ht) hn (by omega) hw').2 (by omega)
theorem Reg.leftB {x : TrI} (hx : L[j]? = some x) {b : Nat} (hw : wB L b j = true) : cont (addD D j) (wB L b) (vB L HN b) ops.size = vB L HN b (j + 1) := by
  rw [cont_later (j := j + 1) ops.size (by omega)]
  · simp only [cont]; rw [if_pos ⟨addD_self _ _, hw⟩]
  · intro i hi hn hw'
    rw [addD_ne (by omega)]
    obtain ⟨o, x', ho, hx', e1, e2, h⟩ := R.at hj
    rw [hx] at hx'; cases hx'
    have hwj := hw
    simp only [wB, hx, Option.elim_some, TrI.wr, Bool.or_eq_true, Bool.and_eq_true, decide_eq_true_eq] at hwj
    by_cases hm : b ∈ x.M
    · exact (R.ordB hj hD hO hx hm hn (by omega) hw').2 (by omega)
    · -- a new block of this operation: a later one that writes it sees it
      obtain ⟨o', y, ho', hy, e1', e2', h'⟩ := R.at hn
      have hwi := hw'
      simp only [wB, hy, Option.elim_some, TrI.wr, Bool.or_eq_true, Bool.and_eq_true, decide_eq_true_eq] at hwi
      rcases hwi with hwi | hwi
      · exact (R.ordN hj hD hO hx hw hn (by omega) hy (h'.wlive b (by simpa using hwi)).1).2 (by omega)
      · rcases hwj with hwj | hwj
        · exact absurd (h.wlive b (by simpa using hwj)).1 hm
        · have l1 := (R.lenS hj).2 x hx
          have l2 := R.lenM (i := j + 1) (j := i) (by omega) (by omega)
          rw [e2'] at hwi; omega
theorem keptT {t : Nat} (hw : wT ops t j = false) : cont (addD D j) (wT ops t) (vT L TN t) ops.size = cont D (wT ops t) (vT L TN t) ops.size :=
  cont_congr _ fun i hi h => addD_ne (fun e => by rw [e, hw] at h; cases h)
theorem keptB {b : Nat} (hw : wB L b j = false) : cont (addD D j) (wB L b) (vB L HN b) ops.size = cont D (wB L b) (vB L HN b) ops.size :=
  cont_congr _ fun i hi h => addD_ne (fun e => by rw [e, hw] at h; cases h)

theorem Reg.inv_step {σ0 σ σ' : Sg} {w0 w w' : World} {a : Act} (I : Inv ds P ρ ops L TN HN σ0 σ w0 D a w) {o : Oper} {x : TrI} (ho : ops[j]? = some o) (hx : L[j]? = some x) (F : OpFx P ρ σ σ' x w w') :
    ∃ σ'', Inv ds P ρ ops L TN HN σ0 σ'' w0 (addD D j) (a.put o.dst (x.v.den ρ σ')) w' := by
  obtain ⟨o', x', ho', hx', e1, e2, h⟩ := R.at hj
  rw [ho] at ho'; cases ho'
  rw [hx] at hx'; cases hx'
  have lj := (R.lenS hj).2 x hx
  have hlen := h.len
  have l0 : (HA L HN 0).length ≤ x.H.length := by rw [e2]; exact R.lenM (Nat.zero_le _) (by omega)
  have lN : x.Hm.length ≤ HN.length := by
    have := R.lenM (i := j + 1) (j := ops.size) (by omega) (Nat.le_refl _)
    rw [R.end_.2] at this; omega
  let σ2 : Sg := ⟨fun b => if x.H.length ≤ b ∧ b < x.Hm.length then σ'.blk b else σ.blk b, fun b => if x.H.length ≤ b ∧ b < x.Hm.length then σ'.cap b else σ.cap b, fun b => if x.H.length ≤ b ∧ b < x.Hm.length then σ'.off b else σ.off b, fun b => if x.H.length ≤ b ∧ b < x.Hm.length then σ'.gh b else σ.gh b⟩
  have n1 : ∀ b, x.H.length ≤ b → b < x.Hm.length → σ2.blk b = σ'.blk b ∧ σ2.cap b = σ'.cap b ∧ σ2.off b = σ'.off b ∧ σ2.gh b = σ'.gh b := fun b h1 h2 => ⟨if_pos ⟨h1, h2⟩, if_pos ⟨h1, h2⟩, if_pos ⟨h1, h2⟩, if_pos ⟨h1, h2⟩⟩
  have n2 : ∀ b, ¬ (x.H.length ≤ b ∧ b < x.Hm.length) → σ2.blk b = σ.blk b ∧ σ2.cap b = σ.cap b ∧ σ2.off b = σ.off b ∧ σ2.gh b = σ.gh b := fun b h1 => ⟨if_neg h1, if_neg h1, if_neg h1, if_neg h1⟩
  have plOf : ∀ {τ : Sg} {b : Nat}, (σ2.blk b = τ.blk b ∧ σ2.cap b = τ.cap b ∧ σ2.off b = τ.off b ∧ σ2.gh b = τ.gh b) → σ2.pl b = τ.pl b := by
    intro τ b ⟨h1, h2, h3, h4⟩
    unfold Sg.pl; rw [h1, h2, h3, h4]
  have n3 : ∀ b, mayB x.H x.Hm x.N b = true → σ2.blk b = σ'.blk b ∧ σ2.cap b = σ'.cap b ∧ σ2.off b = σ'.off b ∧ σ2.gh b = σ'.gh b := by
    intro b hb
    simp only [mayB, Bool.or_eq_true, Bool.and_eq_true, decide_eq_true_eq] at hb
    rcases hb with hb | hb
    · have hlt := h.nlt b (by simpa using hb)
      have := n2 b (by omega)
      have q := F.ext b hlt
      exact ⟨this.1.trans q.1.symm, this.2.1.trans q.2.1.symm, this.2.2.1.trans q.2.2.1.symm, this.2.2.2.trans q.2.2.2.symm⟩
    · exact n1 b hb.1 hb.2
  have avD : ∀ b, av L HN ops.size D b = true → ¬ (x.H.length ≤ b ∧ b < x.Hm.length) := by
    intro b hb
    rcases av_iff.1 hb with hb | ⟨i, hi, hdi, h1, h2⟩
    · omega
    · have hne : i ≠ j := fun e => by rw [e, hD] at hdi; cases hdi
      rcases Nat.lt_or_gt_of_ne hne with hlt | hgt
      · have := R.lenM (i := i + 1) (j := j) (by omega) (by omega)
        rw [e2]; omega
      · have := R.lenM (i := j + 1) (j := i) (by omega) (by omega)
        rw [e2]; omega
  have avUp : ∀ b, av L HN ops.size D b = true → av L HN ops.size (addD D j) b = true := by
    intro b hb
    rcases av_iff.1 hb with hb | ⟨i, hi, hdi, h1⟩
    · exact av_iff.2 (.inl hb)
    · exact av_iff.2 (.inr ⟨i, hi, by simp [addD, hdi], h1⟩)
  have mayUp : ∀ b, mayB x.H x.Hm x.N b = true → av L HN ops.size (addD D j) b = true := by
    intro b hb
    simp only [mayB, Bool.or_eq_true, Bool.and_eq_true, decide_eq_true_eq] at hb
    rcases hb with hb | hb
    · have hb : b ∈ x.N := by simpa using hb
      by_cases h0 : b < (HA L HN 0).length
      · exact av_iff.2 (.inl h0)
      · obtain ⟨i, hi, h1, h2⟩ := R.made (b := b) (j := j) (by omega) (by omega) (by have := h.nlt b hb; rw [e2] at this; exact this)
        obtain ⟨oi, y, hoi, hy, q1, q2, q3⟩ := R.at (i := i) (by omega)
        have hw : y.mk_ b = true := by
          simp only [TrI.mk_, Bool.and_eq_true, decide_eq_true_eq]
          exact ⟨by rw [q2]; exact h1, by have := (R.lenS (i := i) (by omega)).2 y hy; omega⟩
        have := (R.ordM hj hD hO hx hb (by omega) (by omega) hy hw).1 hi
        exact av_iff.2 (.inr ⟨i, by omega, by simp [addD, this], h1, h2⟩)
    · exact av_iff.2 (.inr ⟨j, hj, addD_self _ _, by rw [← e2]; exact hb.1, by omega⟩)
  have avLt : ∀ b, av L HN ops.size (addD D j) b = true → b < HN.length := by
    intro b hb
    rcases av_iff.1 hb with hb | ⟨i, hi, _, _, h2⟩
    · omega
    · have := R.lenM (i := i + 1) (j := ops.size) (by omega) (Nat.le_refl _)
      rw [R.end_.2] at this; omega
  have dOld : ∀ (v : SV), v.on (av L HN ops.size D) = true → v.den ρ σ2 = v.den ρ σ := fun v hv => SV.den_agreeOn (p := av L HN ops.size D) (fun b hb => n2 b (avD b hb)) v hv
  have dOldL : ∀ (l : List SV), onL (av L HN ops.size D) l = true → denL ρ σ2 l = denL ρ σ l := fun v hv => denL_agreeOn (p := av L HN ops.size D) (fun b hb => n2 b (avD b hb)) v hv
  have dNew : ∀ (v : SV), v.on (mayB x.H x.Hm x.N) = true → v.den ρ σ2 = v.den ρ σ' := fun v hv => SV.den_agreeOn (p := mayB x.H x.Hm x.N) n3 v hv
  have dNewL : ∀ (l : List SV), onL (mayB x.H x.Hm x.N) l = true → denL ρ σ2 l = denL ρ σ' l := fun v hv => denL_agreeOn (p := mayB x.H x.Hm x.N) n3 v hv
  have wIff : ∀ b, wB L b j = true → b ∈ x.W ∨ (x.H.length ≤ b ∧ b < x.Hm.length) := by
    intro b hb
    simp only [wB, hx, Option.elim_some, TrI.wr, Bool.or_eq_true, Bool.and_eq_true, decide_eq_true_eq] at hb
    exact hb.imp (by simp) id
  have wNot : ∀ b, wB L b j = false → ¬ (x.H.length ≤ b ∧ b < x.Hm.length) ∧ b ∉ x.W := by
    intro b hb
    simp only [wB, hx, Option.elim_some, TrI.wr, Bool.or_eq_false_iff, Bool.and_eq_false_iff, decide_eq_false_iff_not] at hb
    exact ⟨by omega, by simpa using hb.1⟩
  -- the blocks behind it
  have hBnew : ∀ b y, wB L b j = true → cont (addD D j) (wB L b) (vB L HN b) ops.size = some y → (b ∈ x.W ∨ x.H.length ≤ b) ∧ x.Hm[b]? = some (some y) := by
    intro b y hw hy
    rw [R.leftB hj hD hO hx hw, R.wroteB hj hx hw] at hy
    exact ⟨(wIff b hw).imp id (·.1), getB_some hy⟩
  have hBold : ∀ b y, wB L b j = false → cont (addD D j) (wB L b) (vB L HN b) ops.size = some y → cont D (wB L b) (vB L HN b) ops.size = some y := by
    intro b y hw hy
    rwa [keptB R hj hD hO hw] at hy
  have avB' : ∀ b y, cont (addD D j) (wB L b) (vB L HN b) ops.size = some y → onL (av L HN ops.size (addD D j)) y.cells = true := by
    intro b y hy
    cases hw : wB L b j with
    | true =>
      obtain ⟨h1, h2⟩ := hBnew b y hw hy
      exact onL_mono mayUp _ (h.won b y h1 h2)
    | false => exact onL_mono avUp _ (I.avB b y (hBold b y hw hy))
  have oldIn : ∀ b y, wB L b j = false → b < HN.length → cont (addD D j) (wB L b) (vB L HN b) ops.size = some y → (HD L HN ops.size D)[b]? = some (some y) := by
    intro b y hw hb hy
    rw [HD_get hb, hBold b y hw hy]
  -- a block that it writes lies apart from all others
  have wLive : ∀ c ∈ x.W, ∃ y, (HD L HN ops.size D)[c]? = some (some y) ∧ y.shd = false := by
    intro c hc
    obtain ⟨hm, y, hy, hys⟩ := h.wlive c hc
    have hlt := h.mlt c hm
    refine ⟨y, ?_, hys⟩
    rw [HD_get (by omega), R.seesB hj hD hO hx hm]
    unfold vB
    rw [← e2, some_getB hy]
  have apart : ∀ b y, wB L b j = false → (HD L HN ops.size D)[b]? = some (some y) → ∀ c ∈ x.W, σ.gh b = none → σ.gh c = none → σ.blk c ≠ σ.blk b := by
    intro b y hw hb c hc hgb hgc e
    obtain ⟨z, hz, hzs⟩ := wLive c hc
    have := I.post.rel.inj c b z y hz hb (.inl hzs) hgc hgb e
    exact (wNot b hw).2 (this ▸ hc)
  have σ2W : ∀ b, (b ∈ x.W ∨ x.H.length ≤ b) → b < x.Hm.length → σ2.blk b = σ'.blk b ∧ σ2.cap b = σ'.cap b ∧ σ2.off b = σ'.off b ∧ σ2.gh b = σ'.gh b := by
    intro b hb hlt
    rcases hb with hb | hb
    · have := h.mlt b (h.wlive b hb).1
      have q := n2 b (by omega)
      have q' := F.ext b this
      exact ⟨q.1.trans q'.1.symm, q.2.1.trans q'.2.1.symm, q.2.2.1.trans q'.2.2.1.symm, q.2.2.2.trans q'.2.2.2.symm⟩
    · exact n1 b hb hlt
  refine ⟨σ2, fun t hn => ?_, by rw [put_size]; exact I.ts, by rw [put_defers]; exact I.df, ⟨fun b hb => ?_, by rw [HD_length]; omega, ⟨fun b y hb => ?_, fun b b' y y' hb hb' hs hg hg' he => ?_⟩, fun b h1 h2 hg => ?_, F.os.trans I.post.os, F.tape.trans I.post.tape, F.out.trans I.post.out, Nat.le_trans I.post.size F.size, I.post.kd.trans F.kd, fun k hk hW => ?_, fun b hb hW => ?_⟩, fun t => ?_, avB'⟩
  · -- slots
    rcases put_getD a x.T (by rw [I.ts, e1, R.lenT (i := j) (by omega)]) o.dst (x.v.den ρ σ') x.v t with ⟨p1, p2, p3⟩ | ⟨p1, p2⟩
    · rw [p1, R.leftT hj hD hO ho p3]
      unfold vT
      rw [h.next, p2, dNew _ h.von]
    · cases hw : wT ops t j with
      | false => rw [keptT R hj hD hO hw] at hn; rw [p1, I.tv t hn, keptT R hj hD hO hw, dOld _ (I.avT t)]
      | true =>
        simp only [wT, ho, Option.elim_some, decide_eq_true_eq] at hw
        have q := R.seesT hj hD hO ho (t := t) (.inr hw)
        have q' := R.leftT hj hD hO ho hw
        have q'' : vT L TN t (j + 1) = vT L TN t j := by unfold vT; rw [h.next, p2, e1]
        rw [q', q'', ← q] at hn
        rw [p1, I.tv t hn, q', q'', ← q, dOld _ (I.avT t)]
  · have := n2 b (by omega)
    have q := I.post.ext b hb
    exact ⟨this.1.trans q.1, this.2.1.trans q.2.1, this.2.2.1.trans q.2.2.1, this.2.2.2.trans q.2.2.2⟩
  · obtain ⟨hlt, hy⟩ := HD_some hb
    have hin : insideL (HD L HN ops.size (addD D j)).length y.cells = true := by
      rw [HD_length, ← onL_inside]
      exact onL_mono (fun b hb => decide_eq_true (avLt b hb)) _ (avB' b y hy)
    refine ⟨hin, ?_⟩
    cases hw : wB L b j with
    | true =>
      obtain ⟨h1, h2⟩ := hBnew b y hw hy
      have := σ2W b h1 (List.getElem?_eq_some_iff.1 h2).1
      rw [plOf this]
      exact (F.blk b y h1 h2).to (dNewL _ (h.won b y h1 h2)) fun _ => rfl
    | false =>
      have hold := oldIn b y hw hlt hy
      obtain ⟨_, hat⟩ := I.post.rel.blk b y hold
      have hn := n2 b (wNot b hw).1
      rw [plOf hn]
      exact hat.to (dOldL _ (I.avB b y (hBold b y hw hy))) fun hg => F.frame _ (I.post.rel.lt hold hg) (fun c hc _ hgc => apart b y hw hold c hc hg hgc)
  · obtain ⟨hlt, hy⟩ := HD_some hb
    obtain ⟨hlt', hy'⟩ := HD_some hb'
    have mixed : ∀ (b b' : Nat) (y y' : Blk), wB L b j = true → wB L b' j = false → b' < HN.length → cont (addD D j) (wB L b) (vB L HN b) ops.size = some y → cont (addD D j) (wB L b') (vB L HN b') ops.size = some y' → σ2.gh b = none → σ2.gh b' = none → σ2.blk b ≠ σ2.blk b' := by
      intro b b' y y' hw hw' hlt' hy hy' hg hg' he
      obtain ⟨h1, h2⟩ := hBnew b y hw hy
      have hold := oldIn b' y' hw' hlt' hy'
      rw [(n2 b' (wNot b' hw').1).1] at he
      rw [(n2 b' (wNot b' hw').1).2.2.2] at hg'
      rcases wIff b hw with hW | hN
      · have hm := h.mlt b (h.wlive b hW).1
        rw [(n2 b (by omega)).1] at he
        rw [(n2 b (by omega)).2.2.2] at hg
        exact apart b' y' hw' hold b hW hg' hg he
      · rw [(n1 b hN.1 hN.2).1] at he
        rw [(n1 b hN.1 hN.2).2.2.2] at hg
        rcases F.new b hN.1 hN.2 hg with hgt | ⟨c, hc, _, hcg, hce⟩
        · have := I.post.rel.lt hold hg'; omega
        · exact apart b' y' hw' hold c hc hg' hcg (hce.trans he)
    cases hw : wB L b j <;> cases hw' : wB L b' j
    · rw [(n2 b (wNot b hw).1).1, (n2 b' (wNot b' hw').1).1] at he
      rw [(n2 b (wNot b hw).1).2.2.2] at hg
      rw [(n2 b' (wNot b' hw').1).2.2.2] at hg'
      exact I.post.rel.inj b b' y y' (oldIn b y hw hlt hy) (oldIn b' y' hw' hlt' hy') hs hg hg' he
    · exact absurd he.symm (mixed b' b y' y hw' hw hlt hy' hy hg' hg)
    · exact absurd he (mixed b b' y y' hw hw' hlt' hy hy' hg hg')
    · obtain ⟨h1, h2⟩ := hBnew b y hw hy
      obtain ⟨h1', h2'⟩ := hBnew b' y' hw' hy'
      have p := σ2W b h1 (List.getElem?_eq_some_iff.1 h2).1
      have p' := σ2W b' h1' (List.getElem?_eq_some_iff.1 h2').1
      rw [p.1, p'.1] at he
      rw [p.2.2.2] at hg
      rw [p'.2.2.2] at hg'
      exact F.inj b b' y y' h1 h1' h2 h2' hs hg hg' he
  · rw [HD_length] at h2
    have old : ∀ c, (HA L HN 0).length ≤ c → c < HN.length → σ.gh c = none → w0.heap.size ≤ σ.blk c ∨ ∃ d ∈ WAll L, d < (HA L HN 0).length ∧ σ0.gh d = none ∧ σ0.blk d = σ.blk c := fun c hc hc' hg => I.post.new c hc (by rw [HD_length]; exact hc') hg
    by_cases hn : x.H.length ≤ b ∧ b < x.Hm.length
    · rw [(n1 b hn.1 hn.2).1]
      rw [(n1 b hn.1 hn.2).2.2.2] at hg
      rcases F.new b hn.1 hn.2 hg with hgt | ⟨c, hc, hcl, hcg, hce⟩
      · exact .inl (Nat.le_trans I.post.size hgt)
      · by_cases hc0 : c < (HA L HN 0).length
        · exact .inr ⟨c, mem_WAll hx hc, hc0, by rw [← I.post.ext.gh hc0]; exact hcg, by rw [← hce, (I.post.ext c hc0).1]⟩
        · rw [← hce]; exact old c (by omega) (by omega) hcg
    · rw [(n2 b hn).1]
      rw [(n2 b hn).2.2.2] at hg
      exact old b h1 h2 hg
  · rw [F.frame k (Nat.lt_of_lt_of_le hk I.post.size) ?_, I.post.frame k hk hW]
    intro c hc hcl hcg
    by_cases hc0 : c < (HA L HN 0).length
    · rw [(I.post.ext c hc0).1]; exact hW c (mem_WAll hx hc) hc0 (by rw [← I.post.ext.gh hc0]; exact hcg)
    · rcases I.post.new c (by omega) (by rw [HD_length]; omega) hcg with hg | ⟨d, hd, hd0, hdg, hde⟩
      · omega
      · rw [← hde]; exact hW d hd hd0 hdg
  · have hbN : b < HN.length := by omega
    have hw : wB L b j = false := by
      cases hw : wB L b j with
      | false => rfl
      | true =>
        rcases wIff b hw with h1 | h1
        · exact absurd (mem_WAll hx h1) hW
        · omega
    rw [HD_get hbN, keptB R hj hD hO hw, ← HD_get hbN]
    exact I.post.kept b hb hW
  · cases hw : wT ops t j with
    | false => rw [keptT R hj hD hO hw]; exact SV.on_mono avUp _ (I.avT t)
    | true =>
      simp only [wT, ho, Option.elim_some, decide_eq_true_eq] at hw
      rw [R.leftT hj hD hO ho hw]
      rcases put_getD a x.T (by rw [I.ts, e1, R.lenT (i := j) (by omega)]) o.dst (x.v.den ρ σ') x.v t with ⟨p1, p2, p3⟩ | ⟨p1, p2⟩
      · unfold vT; rw [h.next, p2]; exact SV.on_mono mayUp _ h.von
      · have q := R.seesT hj hD hO ho (t := t) (.inr hw)
        have q'' : vT L TN t (j + 1) = vT L TN t j := by unfold vT; rw [h.next, p2, e1]
        rw [q'', ← q]; exact SV.on_mono avUp _ (I.avT t)
end
end Go.Proofs.Ytgdhpgjfebinhaa.Ev
