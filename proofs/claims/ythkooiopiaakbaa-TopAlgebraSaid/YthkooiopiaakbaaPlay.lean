/- Regions that draw their order: calm operations, variables that are made at any time, and stores into these at any time behind that. -/
import Derived.Test.YthkooiopiaakbaaMix
namespace Go.Proofs.Ythkooiopiaakbaa
open Go Go.RowKit

section
variable {P : Program} {ops : Array Oper} {md : Region.Mode} {S : World → Prop}

/-- A store: from worlds of S and X to worlds of S and X'. -/
structure Stores (P : Program) (S X X' : World → Prop) (o : Oper) (a : Act) : Prop where
  dst : o.dst = none
  guard : o.guard = none
  sel : ∀ cs b, o.op ≠ .select cs b
  lasting : Lasting X'
  runs : ∀ w, S w → X w → ∃ w', (execOp a.eval o).run P w = .ok .skip w' ∧ S w' ∧ X' w' ∧ w.heap.size ≤ w'.heap.size

theorem Stores.wpOp {X X' : World → Prop} {i : Nat} {o : Oper} (hi : ops[i]? = some o) {a : Act} {w : World} {K : Act → World → Prop} {Q : Exit → Act → World → Prop} (h : Stores P S X X' o a) (hw : S w) (hx : X w)
    (hK : ∀ w', S w' → X' w' → w.heap.size ≤ w'.heap.size → K a w') : wpOp P ops Q i K a w := by
  unfold Go.wpOp
  have hwt : Region.wanted o (yielded ops a.tmps) = true := by unfold Region.wanted; rw [h.guard]
  simp only [hi, if_pos hwt]
  left
  obtain ⟨w', hr, h1, h2, h3⟩ := h.runs w hw hx
  unfold Oper.wp
  rw [hr]
  have := hK w' h1 h2 h3
  show K (a.put o.dst undef) w'
  rw [h.dst]
  exact this

theorem Stores.put {X X' : World → Prop} {x y : Oper} {a : Act} {u : Value} (hap : ∀ d, y.dst = some d → d ∉ x.looksAt ops) : Stores P S X X' x (a.put y.dst u) ↔ Stores P S X X' x a := by
  constructor
  · intro h
    refine ⟨h.dst, h.guard, h.sel, h.lasting, fun w h1 h2 => ?_⟩
    have := h.runs w h1 h2
    rwa [execOp_put x h.sel a y.dst u hap] at this
  · intro h
    refine ⟨h.dst, h.guard, h.sel, h.lasting, fun w h1 h2 => ?_⟩
    have := h.runs w h1 h2
    rwa [execOp_put x h.sel a y.dst u hap]

/-- Whichever order is picked: calm operations, ones that make variables, stores. -/
def anyPlay (P : Program) (md : Region.Mode) (ops : Array Oper) (S : World → Prop) (base : Nat) (L : (World → Prop) → Array Bool → Act → Prop) : Nat → (World → Prop) → Array Bool → Act → Prop
  | 0, X, done, a => L X done a
  | k + 1, X, done, a => Region.ready md ops done ≠ [] ∧ ∀ i ∈ Region.ready md ops done,
      ((∃ o v, ops[i]? = some o ∧ Yie P ops S o v a ∧ anyPlay P md ops S base L k X (done.setIfInBounds i true) (a.put o.dst v)) ∨
       (∃ o d c, ops[i]? = some o ∧ Makes P ops o d c ∧ ∀ b, base ≤ b → (∃ w', X w' ∧ b = w'.heap.size) → anyPlay P md ops S base L k (fun w => X w ∧ At w b c) (done.setIfInBounds i true) (a.put (some d) (.pointer (some ⟨b, 0, none⟩)))) ∨
       (∃ o X', ops[i]? = some o ∧ Stores P S X X' o a ∧ anyPlay P md ops S base L k X' (done.setIfInBounds i true) a))

theorem anyPlay_wpAny (hS : Lasting S) {base g : Nat} {L : (World → Prop) → Array Bool → Act → Prop} {Q : Exit → Act → World → Prop}
    (hL : ∀ X done a w, L X done a → S w → X w → wpAny P md ops Q g done a w) (k : Nat) :
    ∀ X done a w, Lasting X → anyPlay P md ops S base L k X done a → S w → X w → base ≤ w.heap.size → wpAny P md ops Q (k + g) done a w := by
  induction k with
  | zero => intro X done a w lX h hw hx hb; rw [Nat.zero_add]; exact hL _ _ _ _ h hw hx
  | succ k ih =>
    intro X done a w lX h hw hx hb
    rw [Nat.add_right_comm k 1 g]
    refine ⟨fun h0 => absurd h0 h.1, fun i hi => ?_⟩
    rcases h.2 i hi with ⟨o, v, ho, hy, hn⟩ | ⟨o, d, c, ho, hm, hn⟩ | ⟨o, X', ho, hs, hn⟩
    · exact hy.wpOp ho hw fun w' hb' => ih X _ _ w' lX hn (hS _ _ hw hb') (lX _ _ hx hb') (Nat.le_trans hb hb'.size)
    · refine hm.wpOp ho fun w' hb' hat => ih _ _ _ w' ?_ (hn _ hb ⟨w, hx, rfl⟩) (hS _ _ hw hb') ⟨lX _ _ hx hb', hat⟩ (Nat.le_trans hb hb'.size)
      exact fun w1 w2 h1 h2 => ⟨lX _ _ h1.1 h2, h1.2.below h2⟩
    · exact hs.wpOp ho hw hx fun w' h1 h2 h3 => ih X' _ _ w' hs.lasting hn h1 h2 (Nat.le_trans hb h3)

theorem anyPlay_take {base i : Nat} {oi : Oper} {v : Value} {L : (World → Prop) → Array Bool → Act → Prop} (hi : ops[i]? = some oi) (hsel : Region.noSelect ops = true)
    (hL0 : ∀ X done a, L X done a → Region.ready md ops done = []) (k : Nat) :
    ∀ X done a, Cl md ops done →
      (∀ j oj, ops[j]? = some oj → j ≠ i → done.getD j true = false → (∀ e ∈ oj.after, Region.binds md e = true → e.on ≠ i) → oi.apart ops oj = true) →
      i ∈ Region.ready md ops done → Yie P ops S oi v a →
      anyPlay P md ops S base L k X (done.setIfInBounds i true) (a.put oi.dst v) → anyPlay P md ops S base L (k + 1) X done a := by
  have hns := Region.noSelect_spec hsel
  have two : ∀ {done : Array Bool}, (∀ j oj, ops[j]? = some oj → j ≠ i → done.getD j true = false → (∀ e ∈ oj.after, Region.binds md e = true → e.on ≠ i) → oi.apart ops oj = true) →
      i ∈ Region.ready md ops done → ∀ j, j ∈ Region.ready md ops done → j ≠ i → ∃ oj, ops[j]? = some oj ∧ (∀ d, oi.dst = some d → d ∉ oj.looksAt ops) ∧ (∀ d, oi.dst = some d → oj.dst ≠ some d) ∧ (∀ d, oj.dst = some d → d ∉ oi.looksAt ops) ∧
        (∀ k ok, ops[k]? = some ok → k ≠ i → (done.setIfInBounds j true).getD k true = false → (∀ x ∈ ok.after, Region.binds md x = true → x.on ≠ i) → oi.apart ops ok = true) := by
    intro done hap hr j hj e
    obtain ⟨unj, oj, hoj, befj⟩ := mem_ready.1 hj
    have uni := (mem_ready.1 hr).1
    have free_i : ∀ x ∈ oj.after, Region.binds md x = true → x.on ≠ i := by
      intro x hx hb he
      have h1 := befj x hx hb
      rw [he, getD_both uni] at h1
      cases h1
    obtain ⟨p1, p2, p3⟩ := Oper.apart_spec (hap j oj hoj e unj free_i)
    refine ⟨oj, hoj, p1, p2, p3, fun k ok hk hki unk hno => hap k ok hk hki ?_ hno⟩
    by_cases hjk : j = k
    · subst hjk; exact unj
    · rwa [getD_set_ne true hjk] at unk
  induction k with
  | zero =>
    intro X done a hcl hap hr hy H
    refine ⟨List.ne_nil_of_mem hr, fun j hj => ?_⟩
    by_cases e : j = i
    · subst e; exact .inl ⟨oi, v, hi, hy, H⟩
    · have h0 := hL0 _ _ _ H
      have := ready_mono hj e
      rw [h0] at this
      cases this
  | succ k ih =>
    intro X done a hcl hap hr hy H
    refine ⟨List.ne_nil_of_mem hr, fun j hj => ?_⟩
    by_cases e : j = i
    · subst e; exact .inl ⟨oi, v, hi, hy, H⟩
    obtain ⟨oj, hoj, p1, p2, p3, hap'⟩ := two hap hr j hj e
    rcases H.2 j (ready_mono hj e) with ⟨o, u, ho, hu, hnx⟩ | ⟨o, d, c, ho, hm, hnx⟩ | ⟨o, X', ho, hs, hnx⟩
    · obtain rfl : oj = o := Option.some.inj (hoj.symm.trans ho)
      refine .inl ⟨oj, u, hoj, (Yie.put (hns j oj · · hoj) p1).1 hu, ih X _ _ (hcl.set hj) hap' (ready_mono hr (Ne.symm e)) ((Yie.put (hns i oi · · hi) p3).2 hy) ?_⟩
      rw [Array.setIfInBounds_comm _ _ e, ← Act.put_comm a v u p2]
      exact hnx
    · obtain rfl : oj = o := Option.some.inj (hoj.symm.trans ho)
      refine .inr (.inl ⟨oj, d, c, hoj, hm, fun b hb hx => ?_⟩)
      have hd := hm.dst
      refine ih _ _ _ (hcl.set hj) hap' (ready_mono hr (Ne.symm e)) (by rw [← hd]; exact (Yie.put (hns i oi · · hi) p3).2 hy) ?_
      rw [Array.setIfInBounds_comm _ _ e, ← hd, ← Act.put_comm a v _ p2, hd]
      exact hnx b hb hx
    · obtain rfl : oj = o := Option.some.inj (hoj.symm.trans ho)
      refine .inr (.inr ⟨oj, X', hoj, (Stores.put p1).1 hs, ih X' _ _ (hcl.set hj) hap' (ready_mono hr (Ne.symm e)) hy ?_⟩)
      rw [Array.setIfInBounds_comm _ _ e]
      exact hnx

theorem anyPlay_lex {base n r : Nat} {L : (World → Prop) → Array Bool → Act → Prop} {L0 : Act → Prop} {X : World → Prop} {fin : Nat → Array Bool → Bool} (hsel : Region.noSelect ops = true)
    (hL0 : ∀ X done a, L X done a → Region.ready md ops done = []) :
    ∀ (l : List Oper) (k : Nat) (done : Array Bool) (a : Act), (∀ j, j < l.length → l[j]? = ops[k + j]?) → k + l.length ≤ n → Cl md ops done →
    lexTo md ops fin l.length k done = true → wpCalm P ops S L0 l a →
    (∀ done a, fin (k + l.length) done = true → L0 a → anyPlay P md ops S base L r X done a) →
    anyPlay P md ops S base L (l.length + r) X done a := by
  intro l
  induction l with
  | nil => intro k done a _ _ _ hB h hend; simpa using hend done a hB h
  | cons o l ih =>
    intro k done a hl hk hcl hX h hend
    simp only [List.length_cons] at hk
    have ho : ops[k]? = some o := by simpa using (hl 0 (by simp)).symm
    simp only [List.length_cons, lexTo, Bool.and_eq_true] at hX
    have hr : k ∈ Region.ready md ops done := by simpa using hX.1
    obtain ⟨v, hy, hK⟩ := h
    rw [show (o :: l).length + r = l.length + r + 1 by simp; omega]
    refine anyPlay_take ho hsel hL0 _ X done a hcl (Region.free_spec ho hX.2.1) hr hy ?_
    refine ih (k + 1) _ _ (fun j hj => ?_) (by omega) (hcl.set hr) hX.2.2 hK (fun done a hf hQ => hend done a (by rw [← hf]; congr 1; simp; omega) hQ)
    have := hl (j + 1) (by simp; omega)
    rw [Nat.add_assoc, Nat.add_comm 1 j]
    simpa using this

/-- The makings in whatever order, then a check of what is behind them. -/
def mixTo (md : Region.Mode) (ops : Array Oper) (fin : Array Bool → Bool) : Nat → Array Bool → List Nat → Bool
  | 0, done, rem => rem.isEmpty && fin done
  | k + 1, done, rem => decide (Region.ready md ops done = rem) && (!rem.isEmpty && rem.all fun i => mixTo md ops fin k (done.setIfInBounds i true) (rem.erase i))

theorem mix_play {base r : Nat} {T : (World → Prop) → Act → Prop} {L : (World → Prop) → Array Bool → Act → Prop} {fin : Array Bool → Bool} (hT : ∀ X X' a, (∀ w, X' w → X w) → T X a → T X' a)
    (hL : ∀ X done a, fin done = true → T X a → anyPlay P md ops S base L r X done a) :
    ∀ (k : Nat) (rem : List (Nat × Tmp × Array Value)) (X : World → Prop) (u : List Nat) (done : Array Bool) (a : Act), rem.length = k → mixTo md ops fin k done (rem.map (·.1)) = true →
      (∀ x ∈ rem, ∃ o, ops[x.1]? = some o ∧ Makes P ops o x.2.1 x.2.2) → (rem.map (·.1)).Nodup → (rem.map (·.2.1)).Nodup → (∀ w, X w → ∀ b ∈ u, b < w.heap.size) → Fin T base rem X u a → anyPlay P md ops S base L (k + r) X done a := by
  intro k
  induction k with
  | zero =>
    intro rem X u done a hk hm _ _ _ _ hF
    obtain rfl : rem = [] := List.length_eq_zero_iff.1 hk
    simp only [mixTo, Bool.and_eq_true] at hm
    rw [Nat.zero_add]
    exact hL X done a hm.2 hF
  | succ k ih =>
    intro rem X u done a hk hm hmk hn1 hn2 hu hF
    rw [show k + 1 + r = k + r + 1 by omega]
    simp only [mixTo, Bool.and_eq_true, decide_eq_true_eq] at hm
    obtain ⟨hr, hne, hall⟩ := hm
    refine ⟨fun h0 => ?_, fun i hi => ?_⟩
    · rw [h0] at hr
      rw [← hr] at hne
      simp at hne
    · rw [hr] at hi
      obtain ⟨x, hx, rfl⟩ := List.mem_map.1 hi
      obtain ⟨l1, l2, rfl⟩ := List.append_of_mem hx
      obtain ⟨o, ho, hM⟩ := hmk x hx
      refine .inr (.inl ⟨o, x.2.1, x.2.2, ho, hM, fun b hb hw => ?_⟩)
      simp only [List.map_append, List.map_cons] at hn1 hn2 hall
      have q1 := List.nodup_append.1 hn1
      have q2 := List.nodup_append.1 hn2
      have f1 : ∀ y ∈ l1, y.1 ≠ x.1 := fun y hy e => q1.2.2 y.1 (List.mem_map_of_mem hy) x.1 (by simp) e
      have f2 : ∀ y ∈ l1, y.2.1 ≠ x.2.1 := fun y hy e => q2.2.2 y.2.1 (List.mem_map_of_mem hy) x.2.1 (by simp) e
      have he : (l1.map (·.1) ++ x.1 :: l2.map (·.1)).erase x.1 = (l1 ++ l2).map (·.1) := by
        rw [List.erase_append_right _ (fun hm => by
          obtain ⟨y, hy, e⟩ := List.mem_map.1 hm
          exact f1 y hy e), List.erase_cons_head, List.map_append]
      have hA := List.all_eq_true.1 hall x.1 (by simp)
      rw [he] at hA
      obtain ⟨w', hw', rfl⟩ := hw
      refine ih (l1 ++ l2) _ (w'.heap.size :: u) _ _ (by simp at hk ⊢; omega) hA (fun y hy => hmk y ?_) ?_ ?_ ?_ (Fin.front hT l1 X u a f2 hF _ hb ?_)
      · simp only [List.mem_append, List.mem_cons] at hy ⊢
        rcases hy with h | h
        · exact .inl h
        · exact .inr (.inr h)
      · rw [List.map_append]
        exact List.nodup_append.2 ⟨q1.1, (List.nodup_cons.1 q1.2.1).2, fun p hp q hq => q1.2.2 p hp q (List.mem_cons_of_mem _ hq)⟩
      · rw [List.map_append]
        exact List.nodup_append.2 ⟨q2.1, (List.nodup_cons.1 q2.2.1).2, fun p hp q hq => q2.2.2 p hp q (List.mem_cons_of_mem _ hq)⟩
      · intro w2 h2 b hb2
        rcases List.mem_cons.1 hb2 with rfl | hb2
        · exact h2.2.lt
        · exact hu w2 h2.1 b hb2
      · intro hm
        exact Nat.lt_irrefl _ (hu w' hw' _ hm)

/-- Stores one behind the other, then the end. -/
def StoSeq (P : Program) (S : World → Prop) (R : Act → World → Prop) : List Oper → (World → Prop) → Act → Prop
  | [], X, a => ∀ w, S w → X w → R a w
  | o :: l, X, a => ∃ X', Stores P S X X' o a ∧ StoSeq P S R l X' a

theorem StoSeq.mono {R : Act → World → Prop} : ∀ (l : List Oper) (X X' : World → Prop) (a : Act), (∀ w, X' w → X w) → StoSeq P S R l X a → StoSeq P S R l X' a
  | [], _, _, _, h, H => fun w h1 h2 => H w h1 (h w h2)
  | _ :: _, _, _, _, h, ⟨Y, hs, H⟩ => ⟨Y, ⟨hs.dst, hs.guard, hs.sel, hs.lasting, fun w h1 h2 => hs.runs w h1 (h w h2)⟩, H⟩

def stoB (md : Region.Mode) (ops : Array Oper) : Nat → Nat → Array Bool → Bool
  | 0, _, done => decide (Region.ready md ops done = [])
  | k + 1, i, done => decide (Region.ready md ops done = [i]) && stoB md ops k (i + 1) (done.setIfInBounds i true)

theorem sto_play {base : Nat} {R : Act → World → Prop} : ∀ (l : List Oper) (i : Nat) (X : World → Prop) (done : Array Bool) (a : Act), (∀ j, j < l.length → l[j]? = ops[i + j]?) → stoB md ops l.length i done = true → StoSeq P S R l X a →
    anyPlay P md ops S base (fun X done a => Region.ready md ops done = [] ∧ ∀ w, S w → X w → R a w) l.length X done a
  | [], i, X, done, a, _, hb, h => ⟨by simpa [stoB] using hb, h⟩
  | o :: l, i, X, done, a, hl, hb, ⟨X', hs, h⟩ => by
    simp only [List.length_cons, stoB, Bool.and_eq_true, decide_eq_true_eq] at hb
    refine ⟨by rw [hb.1]; simp, fun j hj => ?_⟩
    rw [hb.1] at hj
    obtain rfl : j = i := by simpa using hj
    refine .inr (.inr ⟨o, X', by simpa using (hl 0 (by simp)).symm, hs, ?_⟩)
    refine sto_play l (j + 1) X' _ a (fun q hq => ?_) hb.2 h
    have := hl (q + 1) (by simp; omega)
    rw [Nat.add_assoc, Nat.add_comm 1 q]
    simpa using this

/-- The check: n calm operations, k that make variables, then stores. -/
def playB (md : Region.Mode) (ops : Array Oper) (n k : Nat) : Bool :=
  Region.noSelect ops && (decide (n + k ≤ ops.size) &&
    lexTo md ops (fun _ done => mixTo md ops (stoB md ops (ops.size - (n + k)) (n + k)) k done ((List.range k).map (n + ·))) n 0 (Array.replicate ops.size false))

theorem wp_region_play {id : Nat} {Q : Exit → Act → World → Prop} {a : Act} {w : World} {l : List Oper} (S : World → Prop) (n : Nat) (al : List (Nat × Tmp × Array Value)) (hal : al.map (·.1) = (List.range al.length).map (n + ·)) (hdd : (al.map (·.2.1)).Nodup)
    (hm : P.follows .mixedOrders = true) (hX : playB .any l.toArray n al.length = true) (hS : Lasting S) (h0 : S w.drew) (hM : ∀ x ∈ al, ∃ o, l.toArray[x.1]? = some o ∧ Makes P l.toArray o x.2.1 x.2.2)
    (h : wpCalm P l.toArray S (fun a' => Fin (fun X a'' => StoSeq P S (Q .normal) (l.drop (n + al.length)) X a'') w.heap.size al (fun _ => True) [] a') (l.take n) a) : (Code.region id l.toArray true).wp P Q a w := by
  simp only [playB, Bool.and_eq_true, decide_eq_true_eq] at hX
  obtain ⟨hsel, hps, hlex⟩ := hX
  have hps' : n + al.length ≤ l.length := by simpa using hps
  have s4 : (l.take n).length = n := by simp; omega
  have s5 : (l.drop (n + al.length)).length = l.toArray.size - (n + al.length) := by simp
  let L : (World → Prop) → Array Bool → Act → Prop := fun X done a => Region.ready .any l.toArray done = [] ∧ ∀ w, S w → X w → Q .normal a w
  have H := anyPlay_lex (P := P) (S := S) (base := w.heap.size) (n := n) (r := al.length + (l.drop (n + al.length)).length) (X := fun _ => True) (L := L) hsel (fun X done a h => h.1)
    (l.take n) 0 _ a (fun j hj => by rw [s4] at hj; simp [hj]) (by rw [s4]; omega) (Cl.start _ _) (by rw [s4]; exact hlex) h
    (fun done a' hf hq => by
      refine mix_play (T := fun X a'' => StoSeq P S (Q .normal) (l.drop (n + al.length)) X a'') (fun X X' a hx ht => StoSeq.mono _ _ _ _ hx ht)
        (fun X done a hst ht => sto_play (l.drop (n + al.length)) (n + al.length) X done a (fun j hj => by simp) (by rw [s5]; exact hst) ht) al.length al _ [] done a' rfl (by rw [hal]; exact hf) hM ?_ hdd (fun _ _ b hb => by cases hb) hq
      rw [hal]
      exact List.Pairwise.map _ (fun p q (h : p ≠ q) => by omega) List.nodup_range)
  refine wp_region_any hm ?_
  have := anyPlay_wpAny (Q := Q) (g := 0) hS (fun X done a' w' hL hw' hx => ⟨hL.1, hL.2 w' hw' hx⟩) _ _ _ _ w.drew (fun _ _ _ _ => trivial) H h0 trivial (Nat.le_refl _)
  rw [s4, s5, show n + (al.length + (l.toArray.size - (n + al.length))) + 0 = l.toArray.size by simp; omega] at this
  exact this
end
end Go.Proofs.Ythkooiopiaakbaa
