/- Regions that draw their order with two variables that are made at any time. -/
import Derived.Test.YthkooiopiaakbaaFloat
namespace Go.Proofs.Ythkooiopiaakbaa
open Go Go.RowKit

section
variable {P : Program} {ops : Array Oper} {md : Region.Mode} {S : World → Prop}

/-- Each operation behind the head, but those that make variables, waits for the head's last one, through others. -/
def behindsB (md : Region.Mode) (ops : Array Oper) (n : Nat) (al : List Nat) : Bool := (List.range ops.size).all fun t => decide (t < n) || (al.contains t || (List.range t).any fun j => decide (n ≤ j + 1) && (!al.contains j && Region.waitsFor md ops t j))

theorem behinds_open {n : Nat} {al : List Nat} {done : Array Bool} (hB : behindsB md ops n al = true) (h : Cl md ops done) (hl : done.getD (n - 1) false = false) (hn : 0 < n) :
    ∀ (t : Nat), n ≤ t → t ∉ al → t < ops.size → done.getD t false = false ∧ t ∉ Region.ready md ops done := by
  intro t
  induction t using Nat.strongRecOn with
  | _ t ih =>
    intro ht hp hs
    have h1 := List.all_eq_true.1 hB t (List.mem_range.2 hs)
    simp only [Bool.or_eq_true, decide_eq_true_eq] at h1
    rcases h1 with h1 | h1 | h1
    · omega
    · exact absurd (by simpa using h1) hp
    · obtain ⟨j, hj, hj2⟩ := List.any_eq_true.1 h1
      simp only [Bool.and_eq_true, decide_eq_true_eq, Bool.not_eq_true'] at hj2
      have hjt := List.mem_range.1 hj
      have hjo : done.getD j false = false := by
        by_cases e : j = n - 1
        · rw [e]; exact hl
        · exact (ih j hjt (by omega) (fun hm => by have := hj2.2.1; simp at this; exact this hm) (by omega)).1
      exact ⟨h.waits hj2.2.2 hjo, not_ready hj2.2.2 hjo⟩

theorem whos_end {n : Nat} {al : List Nat} (hE : endB md ops n = true) (hB : behindsB md ops n al = true) (done : Array Bool) (hcl : Cl md ops done) (i : Nat) (hin : i < n) (hun : done.getD i false = false) : ∀ j ∈ Region.ready md ops done, j < n ∨ j ∈ al := by
  intro j hj
  have hlast := end_open hE hcl _ i rfl hin hun
  obtain ⟨_, oj, hoj, _⟩ := mem_ready.1 hj
  have hjs : j < ops.size := (Array.getElem?_eq_some_iff.1 hoj).1
  by_cases h1 : j < n
  · exact .inl h1
  · by_cases h2 : j ∈ al
    · exact .inr h2
    · exact absurd hj (behinds_open hB hcl hlast (by omega) j (by omega) h2 hjs).2

/-- Whichever order is picked: calm operations, or ones that make variables, so many of them; then 'L'. -/
def anyMix (P : Program) (md : Region.Mode) (ops : Array Oper) (S : World → Prop) (base : Nat) (L : (World → Prop) → Array Bool → Act → Prop) : Nat → (World → Prop) → Array Bool → Act → Prop
  | 0, X, done, a => L X done a
  | k + 1, X, done, a => Region.ready md ops done ≠ [] ∧ ∀ i ∈ Region.ready md ops done,
      ((∃ o v, ops[i]? = some o ∧ Yie P ops S o v a ∧ anyMix P md ops S base L k X (done.setIfInBounds i true) (a.put o.dst v)) ∨
       (∃ o d c, ops[i]? = some o ∧ Makes P ops o d c ∧ ∀ b, base ≤ b → (∃ w', X w' ∧ b = w'.heap.size) → anyMix P md ops S base L k (fun w => X w ∧ At w b c) (done.setIfInBounds i true) (a.put (some d) (.pointer (some ⟨b, 0, none⟩)))))

theorem anyMix_wpAny (hS : Lasting S) {base g : Nat} {L : (World → Prop) → Array Bool → Act → Prop} {Q : Exit → Act → World → Prop}
    (hL : ∀ X done a w, L X done a → S w → X w → wpAny P md ops Q g done a w) (k : Nat) :
    ∀ X done a w, Lasting X → anyMix P md ops S base L k X done a → S w → X w → base ≤ w.heap.size → wpAny P md ops Q (k + g) done a w := by
  induction k with
  | zero => intro X done a w lX h hw hx hb; rw [Nat.zero_add]; exact hL _ _ _ _ h hw hx
  | succ k ih =>
    intro X done a w lX h hw hx hb
    rw [Nat.add_right_comm k 1 g]
    refine ⟨fun h0 => absurd h0 h.1, fun i hi => ?_⟩
    rcases h.2 i hi with ⟨o, v, ho, hy, hn⟩ | ⟨o, d, c, ho, hm, hn⟩
    · exact hy.wpOp ho hw fun w' hb' => ih X _ _ w' lX hn (hS _ _ hw hb') (lX _ _ hx hb') (Nat.le_trans hb hb'.size)
    · refine hm.wpOp ho fun w' hb' hat => ih _ _ _ w' ?_ (hn _ hb ⟨w, hx, rfl⟩) (hS _ _ hw hb') ⟨lX _ _ hx hb', hat⟩ (Nat.le_trans hb hb'.size)
      exact fun w1 w2 h1 h2 => ⟨lX _ _ h1.1 h2, h1.2.below h2⟩

theorem anyMix_take {base n i : Nat} {al : List Nat} {oi : Oper} {v : Value} {L : (World → Prop) → Array Bool → Act → Prop} (hi : ops[i]? = some oi) (hsel : Region.noSelect ops = true)
    (who' : ∀ done, Cl md ops done → ∀ i < n, done.getD i false = false → ∀ j ∈ Region.ready md ops done, j < n ∨ j ∈ al) (hin : i < n)
    (hL0 : ∀ X done a, L X done a → ∀ j ∈ Region.ready md ops done, n ≤ j ∧ j ∉ al) (k : Nat) :
    ∀ X done a, Cl md ops done →
      (∀ j oj, ops[j]? = some oj → j ≠ i → done.getD j true = false → (∀ e ∈ oj.after, Region.binds md e = true → e.on ≠ i) → oi.apart ops oj = true) →
      i ∈ Region.ready md ops done → Yie P ops S oi v a →
      anyMix P md ops S base L k X (done.setIfInBounds i true) (a.put oi.dst v) → anyMix P md ops S base L (k + 1) X done a := by
  have hns := Region.noSelect_spec hsel
  have two : ∀ {done : Array Bool}, (∀ j oj, ops[j]? = some oj → j ≠ i → done.getD j true = false → (∀ e ∈ oj.after, Region.binds md e = true → e.on ≠ i) → oi.apart ops oj = true) →
      i ∈ Region.ready md ops done → ∀ j, j ∈ Region.ready md ops done → j ≠ i → ∃ oj, ops[j]? = some oj ∧ (∀ d, oi.dst = some d → d ∉ oj.looksAt ops) ∧ (∀ d, oi.dst = some d → oj.dst ≠ some d) ∧ (∀ d, oj.dst = some d → d ∉ oi.looksAt ops) ∧
        (∀ k ok, ops[k]? = some ok → k ≠ i → (done.setIfInBounds j true).getD k true = false → (∀ x ∈ ok.after, Region.binds md x = true → x.on ≠ i) → oi.apart ops ok = true) := by
    intro done hap hr j hj e
    obtain ⟨unj, oj, hoj, befj⟩ := mem_ready.1 hj
    have uni := (mem_ready.1 hr).1
    have free_i : ∀ x ∈ oj.after, Region.binds md x = true → x.on ≠ i := by
      intro x hx hb he
      have h1 := befj x hx hb
      rw [he, getD_both uni] at h1
      cases h1
    obtain ⟨p1, p2, p3⟩ := Oper.apart_spec (hap j oj hoj e unj free_i)
    refine ⟨oj, hoj, p1, p2, p3, fun k ok hk hki unk hno => hap k ok hk hki ?_ hno⟩
    by_cases hjk : j = k
    · subst hjk; exact unj
    · rwa [getD_set_ne true hjk] at unk
  induction k with
  | zero =>
    intro X done a hcl hap hr hy H
    refine ⟨List.ne_nil_of_mem hr, fun j hj => ?_⟩
    by_cases e : j = i
    · subst e; exact .inl ⟨oi, v, hi, hy, H⟩
    · have h0 := hL0 _ _ _ H j (ready_mono hj e)
      rcases who' _ hcl i hin (getD_both (mem_ready.1 hr).1) j hj with h | h
      · omega
      · exact absurd h h0.2
  | succ k ih =>
    intro X done a hcl hap hr hy H
    refine ⟨List.ne_nil_of_mem hr, fun j hj => ?_⟩
    by_cases e : j = i
    · subst e; exact .inl ⟨oi, v, hi, hy, H⟩
    obtain ⟨oj, hoj, p1, p2, p3, hap'⟩ := two hap hr j hj e
    rcases H.2 j (ready_mono hj e) with ⟨o, u, ho, hu, hnx⟩ | ⟨o, d, c, ho, hm, hnx⟩
    · obtain rfl : oj = o := Option.some.inj (hoj.symm.trans ho)
      refine .inl ⟨oj, u, hoj, (Yie.put (hns j oj · · hoj) p1).1 hu, ih X _ _ (hcl.set hj) hap' (ready_mono hr (Ne.symm e)) ((Yie.put (hns i oi · · hi) p3).2 hy) ?_⟩
      rw [Array.setIfInBounds_comm _ _ e, ← Act.put_comm a v u p2]
      exact hnx
    · obtain rfl : oj = o := Option.some.inj (hoj.symm.trans ho)
      refine .inr ⟨oj, d, c, hoj, hm, fun b hb hx => ?_⟩
      have hd := hm.dst
      refine ih _ _ _ (hcl.set hj) hap' (ready_mono hr (Ne.symm e)) (by rw [← hd]; exact (Yie.put (hns i oi · · hi) p3).2 hy) ?_
      rw [Array.setIfInBounds_comm _ _ e, ← hd, ← Act.put_comm a v _ p2, hd]
      exact hnx b hb hx

theorem anyMix_lex {base n r : Nat} {al : List Nat} {L : (World → Prop) → Array Bool → Act → Prop} {L0 : Act → Prop} {X : World → Prop} {fin : Nat → Array Bool → Bool} (hsel : Region.noSelect ops = true)
    (who' : ∀ done, Cl md ops done → ∀ i < n, done.getD i false = false → ∀ j ∈ Region.ready md ops done, j < n ∨ j ∈ al)
    (hL0 : ∀ X done a, L X done a → ∀ j ∈ Region.ready md ops done, n ≤ j ∧ j ∉ al) :
    ∀ (l : List Oper) (k : Nat) (done : Array Bool) (a : Act), (∀ j, j < l.length → l[j]? = ops[k + j]?) → k + l.length ≤ n → Cl md ops done →
    lexTo md ops fin l.length k done = true → wpCalm P ops S L0 l a →
    (∀ done a, fin (k + l.length) done = true → L0 a → anyMix P md ops S base L r X done a) →
    anyMix P md ops S base L (l.length + r) X done a := by
  intro l
  induction l with
  | nil => intro k done a _ _ _ hB h hend; simpa using hend done a hB h
  | cons o l ih =>
    intro k done a hl hk hcl hX h hend
    simp only [List.length_cons] at hk
    have ho : ops[k]? = some o := by simpa using (hl 0 (by simp)).symm
    simp only [List.length_cons, lexTo, Bool.and_eq_true] at hX
    have hr : k ∈ Region.ready md ops done := by simpa using hX.1
    obtain ⟨v, hy, hK⟩ := h
    rw [show (o :: l).length + r = l.length + r + 1 by simp; omega]
    refine anyMix_take ho hsel who' (by omega) hL0 _ X done a hcl (Region.free_spec ho hX.2.1) hr hy ?_
    refine ih (k + 1) _ _ (fun j hj => ?_) (by omega) (hcl.set hr) hX.2.2 hK (fun done a hf hQ => hend done a (by rw [← hf]; congr 1; simp; omega) hQ)
    have := hl (j + 1) (by simp; omega)
    rw [Nat.add_assoc, Nat.add_comm 1 j]
    simpa using this

/-- The check: n calm operations, then two that make variables in slots d and e, then the tail. -/
def twoB (md : Region.Mode) (ops : Array Oper) (n : Nat) : Bool :=
  Region.noSelect ops && (decide (0 < n) && (decide (n + 1 < ops.size) && (endB md ops n && (behindsB md ops n [n, n + 1] &&
    lexTo md ops (fun _ done => decide (Region.ready md ops done = [n, n + 1]) && (decide (Region.ready md ops (done.setIfInBounds n true) = [n + 1]) && (decide (Region.ready md ops (done.setIfInBounds (n + 1) true) = [n]) &&
      ((Region.ready md ops ((done.setIfInBounds n true).setIfInBounds (n + 1) true)).all (fun j => decide (n + 2 ≤ j)) && Region.seqB md ops (ops.size - (n + 2)) (n + 2) ((done.setIfInBounds n true).setIfInBounds (n + 1) true))))) n 0 (Array.replicate ops.size false)))))

/-- Calm operations, two variables that are made at any time, then a tail. -/
theorem wp_region_two {id : Nat} {Q : Exit → Act → World → Prop} {a : Act} {w : World} {l : List Oper} (S : World → Prop) (n : Nat) (d e : Tmp) (hde : d ≠ e) (hm : P.follows .mixedOrders = true) (hX : twoB .any l.toArray n = true)
    (hS : Lasting S) (h0 : S w.drew) {o o' : Oper} {c c' : Array Value} (ho : l.toArray[n]? = some o) (ho' : l.toArray[n + 1]? = some o') (hM : Makes P l.toArray o d c) (hM' : Makes P l.toArray o' e c')
    (h : wpCalm P l.toArray S (fun a' => ∀ b b' w', w.heap.size ≤ b → w.heap.size ≤ b' → b ≠ b' → S w' → At w' b c → At w' b' c' → wpList P l.toArray Q (l.drop (n + 2)) ((a'.put (some d) (.pointer (some ⟨b, 0, none⟩))).put (some e) (.pointer (some ⟨b', 0, none⟩))) w') (l.take n) a) : (Code.region id l.toArray true).wp P Q a w := by
  simp only [twoB, Bool.and_eq_true, decide_eq_true_eq] at hX
  obtain ⟨hsel, hn0, hps, hE, hB, hlex⟩ := hX
  have hps' : n + 1 < l.length := by simpa using hps
  have s4 : (l.take n).length = n := by simp; omega
  let T : Act → Prop := fun a' => ∀ b b' w', w.heap.size ≤ b → w.heap.size ≤ b' → b ≠ b' → S w' → At w' b c → At w' b' c' → wpList P l.toArray Q (l.drop (n + 2)) ((a'.put (some d) (.pointer (some ⟨b, 0, none⟩))).put (some e) (.pointer (some ⟨b', 0, none⟩))) w'
  let L : (World → Prop) → Array Bool → Act → Prop := fun X done a' => (Region.ready .any l.toArray done).all (fun j => decide (n + 2 ≤ j)) = true ∧ Region.seqB .any l.toArray (l.toArray.size - (n + 2)) (n + 2) done = true ∧
    ∀ w', S w' → X w' → wpList P l.toArray Q (l.drop (n + 2)) a' w'
  have H := anyMix_lex (P := P) (S := S) (base := w.heap.size) (al := [n, n + 1]) (r := 2) (X := fun _ => True) (L := L) hsel (whos_end hE hB)
    (fun X done a' hL j hj => by
      have := all_ge hL.1 j hj
      exact ⟨by omega, by simp; omega⟩) (l.take n) 0 _ a (fun j hj => by rw [s4] at hj; simp [hj]) (by rw [s4]; omega) (Cl.start _ _) (by rw [s4]; exact hlex) h
    (fun done a' hf hq => by
      simp only [Bool.and_eq_true, decide_eq_true_eq] at hf
      obtain ⟨f1, f2, f3, f4, f5⟩ := hf
      have hcomm : (done.setIfInBounds (n + 1) true).setIfInBounds n true = (done.setIfInBounds n true).setIfInBounds (n + 1) true := Array.setIfInBounds_comm _ _ (by omega)
      refine ⟨by rw [f1]; simp, fun i hi => ?_⟩
      rw [f1] at hi
      have hi : i = n ∨ i = n + 1 := by simpa using hi
      rcases hi with rfl | rfl
      · refine .inr ⟨o, d, c, ho, hM, fun b hb _ => ⟨by rw [f2]; simp, fun j hj => ?_⟩⟩
        rw [f2] at hj
        obtain rfl : j = i + 1 := by simpa using hj
        refine .inr ⟨o', e, c', ho', hM', fun b' hb' hx => ⟨f4, f5, fun w' hw' hx' => hq b b' w' hb hb' ?_ hw' hx'.1.2 hx'.2⟩⟩
        obtain ⟨w2, hx2, rfl⟩ := hx
        exact Nat.ne_of_lt hx2.2.lt
      · refine .inr ⟨o', e, c', ho', hM', fun b' hb' _ => ⟨by rw [f3]; simp, fun j hj => ?_⟩⟩
        rw [f3] at hj
        obtain rfl : j = n := by simpa using hj
        refine .inr ⟨o, d, c, ho, hM, fun b hb hx => ⟨by rw [hcomm]; exact f4, by rw [hcomm]; exact f5, fun w' hw' hx' => ?_⟩⟩
        have hne : b ≠ b' := by
          obtain ⟨w2, hx2, rfl⟩ := hx
          exact Nat.ne_of_gt hx2.2.lt
        have := hq b b' w' hb hb' hne hw' hx'.2 hx'.1.2
        rwa [Act.put_comm a' _ _ (x := some d) (y := some e) (fun k hk => by cases hk; exact fun h => hde (by cases h; rfl))] at this)
  refine wp_region_any hm ?_
  have := anyMix_wpAny (Q := Q) (g := l.toArray.size - (n + 2)) hS (fun X done a' w' hL hw' hx => seq_wp hL.2.1 (hL.2.2 w' hw' hx)) _ _ _ _ w.drew (fun _ _ _ _ => trivial) H h0 trivial (Nat.le_refl _)
  rw [s4, show n + 2 + (l.toArray.size - (n + 2)) = l.toArray.size by simp; omega] at this
  exact this
end
end Go.Proofs.Ythkooiopiaakbaa
