/- Regions that draw their order with any number of variables that are made at any time. -/
import Derived.Test.YthkooiopiaakbaaFltw
namespace Go.Proofs.Ythkooiopiaakbaa
open Go Go.RowKit

section
variable {P : Program} {ops : Array Oper} {md : Region.Mode} {S : World → Prop}

/-- What is to be shown behind the variables that are still to be made: whatever their blocks. -/
def Fin (T : (World → Prop) → Act → Prop) (base : Nat) : List (Nat × Tmp × Array Value) → (World → Prop) → List Nat → Act → Prop
  | [], X, _, a => T X a
  | x :: l, X, used, a => ∀ b, base ≤ b → b ∉ used → Fin T base l (fun w => X w ∧ At w b x.2.2) (b :: used) (a.put (some x.2.1) (.pointer (some ⟨b, 0, none⟩)))

theorem Fin.mono {T : (World → Prop) → Act → Prop} {base : Nat} (hT : ∀ X X' a, (∀ w, X' w → X w) → T X a → T X' a) : ∀ (l : List (Nat × Tmp × Array Value)) (X X' : World → Prop) (u u' : List Nat) (a : Act),
    (∀ w, X' w → X w) → (∀ b ∈ u, b ∈ u') → Fin T base l X u a → Fin T base l X' u' a
  | [], X, X', _, _, a, hX, _, h => hT X X' a hX h
  | x :: l, X, X', u, u', a, hX, hu, h => fun b hb hn => Fin.mono hT l _ _ _ _ _ (fun w hw => ⟨hX w hw.1, hw.2⟩) (fun c hc => by
      rcases List.mem_cons.1 hc with rfl | hc
      · simp
      · exact List.mem_cons_of_mem _ (hu c hc)) (h b hb (fun hm => hn (hu b hm)))

theorem Fin.swap {T : (World → Prop) → Act → Prop} {base : Nat} (hT : ∀ X X' a, (∀ w, X' w → X w) → T X a → T X' a) {x y : Nat × Tmp × Array Value} {l : List (Nat × Tmp × Array Value)} {X : World → Prop} {u : List Nat} {a : Act}
    (hd : x.2.1 ≠ y.2.1) (h : Fin T base (x :: y :: l) X u a) : Fin T base (y :: x :: l) X u a := by
  intro b hb hu b' hb' hu'
  simp only [List.mem_cons, not_or] at hu'
  have := h b' hb' hu'.2 b hb (by simp only [List.mem_cons, not_or]; exact ⟨Ne.symm hu'.1, hu⟩)
  rw [Act.put_comm a _ _ (x := some x.2.1) (y := some y.2.1) (fun k hk => by cases hk; exact fun e => hd (Option.some.inj e).symm)] at this
  refine Fin.mono hT l _ _ _ _ _ (fun w hw => ⟨⟨hw.1.1, hw.2⟩, hw.1.2⟩) ?_ this
  intro c hc
  simp only [List.mem_cons] at hc ⊢
  rcases hc with h | h | h
  · exact .inr (.inl h)
  · exact .inl h
  · exact .inr (.inr h)

theorem Fin.front {T : (World → Prop) → Act → Prop} {base : Nat} (hT : ∀ X X' a, (∀ w, X' w → X w) → T X a → T X' a) {x : Nat × Tmp × Array Value} {l2 : List (Nat × Tmp × Array Value)} :
    ∀ (l1 : List (Nat × Tmp × Array Value)) (X : World → Prop) (u : List Nat) (a : Act), (∀ y ∈ l1, y.2.1 ≠ x.2.1) → Fin T base (l1 ++ x :: l2) X u a → Fin T base (x :: (l1 ++ l2)) X u a
  | [], _, _, _, _, h => h
  | y :: l1, X, u, a, hd, h => Fin.swap hT (hd y (by simp)) fun b hb hu => Fin.front hT l1 _ _ _ (fun z hz => hd z (by simp [hz])) (h b hb hu)

/-- The check of the end: the makings in whatever order, then the tail. -/
def mixB (md : Region.Mode) (ops : Array Oper) (N : Nat) : Nat → Array Bool → List Nat → Bool
  | 0, done, rem => rem.isEmpty && ((Region.ready md ops done).all (fun j => decide (N ≤ j)) && Region.seqB md ops (ops.size - N) N done)
  | k + 1, done, rem => decide (Region.ready md ops done = rem) && (!rem.isEmpty && rem.all fun i => mixB md ops N k (done.setIfInBounds i true) (rem.erase i))

theorem mix_any {base N : Nat} {T : (World → Prop) → Act → Prop} {L : (World → Prop) → Array Bool → Act → Prop} (hT : ∀ X X' a, (∀ w, X' w → X w) → T X a → T X' a)
    (hL : ∀ X done a, (Region.ready md ops done).all (fun j => decide (N ≤ j)) = true → Region.seqB md ops (ops.size - N) N done = true → T X a → L X done a) :
    ∀ (k : Nat) (rem : List (Nat × Tmp × Array Value)) (X : World → Prop) (u : List Nat) (done : Array Bool) (a : Act), rem.length = k → mixB md ops N k done (rem.map (·.1)) = true →
      (∀ x ∈ rem, ∃ o, ops[x.1]? = some o ∧ Makes P ops o x.2.1 x.2.2) → (rem.map (·.1)).Nodup → (rem.map (·.2.1)).Nodup → (∀ w, X w → ∀ b ∈ u, b < w.heap.size) → Fin T base rem X u a → anyMix P md ops S base L k X done a := by
  intro k
  induction k with
  | zero =>
    intro rem X u done a hk hm _ _ _ _ hF
    obtain rfl : rem = [] := List.length_eq_zero_iff.1 hk
    simp only [mixB, Bool.and_eq_true] at hm
    exact hL X done a hm.2.1 hm.2.2 hF
  | succ k ih =>
    intro rem X u done a hk hm hmk hn1 hn2 hu hF
    simp only [mixB, Bool.and_eq_true, decide_eq_true_eq] at hm
    obtain ⟨hr, hne, hall⟩ := hm
    refine ⟨fun h0 => ?_, fun i hi => ?_⟩
    · rw [h0] at hr
      rw [← hr] at hne
      simp at hne
    · rw [hr] at hi
      obtain ⟨x, hx, rfl⟩ := List.mem_map.1 hi
      obtain ⟨l1, l2, rfl⟩ := List.append_of_mem hx
      obtain ⟨o, ho, hM⟩ := hmk x hx
      refine .inr ⟨o, x.2.1, x.2.2, ho, hM, fun b hb hw => ?_⟩
      simp only [List.map_append, List.map_cons] at hn1 hn2 hall
      have q1 := List.nodup_append.1 hn1
      have q2 := List.nodup_append.1 hn2
      have f1 : ∀ y ∈ l1, y.1 ≠ x.1 := fun y hy e => q1.2.2 y.1 (List.mem_map_of_mem hy) x.1 (by simp) e
      have f2 : ∀ y ∈ l1, y.2.1 ≠ x.2.1 := fun y hy e => q2.2.2 y.2.1 (List.mem_map_of_mem hy) x.2.1 (by simp) e
      have he : (l1.map (·.1) ++ x.1 :: l2.map (·.1)).erase x.1 = (l1 ++ l2).map (·.1) := by
        rw [List.erase_append_right _ (fun hm => by
          obtain ⟨y, hy, e⟩ := List.mem_map.1 hm
          exact f1 y hy e), List.erase_cons_head, List.map_append]
      have hA := List.all_eq_true.1 hall x.1 (by simp)
      rw [he] at hA
      obtain ⟨w', hw', rfl⟩ := hw
      refine ih (l1 ++ l2) _ (w'.heap.size :: u) _ _ (by simp at hk ⊢; omega) hA (fun y hy => hmk y ?_) ?_ ?_ ?_ (Fin.front hT l1 X u a f2 hF _ hb ?_)
      · simp only [List.mem_append, List.mem_cons] at hy ⊢
        rcases hy with h | h
        · exact .inl h
        · exact .inr (.inr h)
      · rw [List.map_append]
        exact List.nodup_append.2 ⟨q1.1, (List.nodup_cons.1 q1.2.1).2, fun p hp q hq => q1.2.2 p hp q (List.mem_cons_of_mem _ hq)⟩
      · rw [List.map_append]
        exact List.nodup_append.2 ⟨q2.1, (List.nodup_cons.1 q2.2.1).2, fun p hp q hq => q2.2.2 p hp q (List.mem_cons_of_mem _ hq)⟩
      · intro w2 h2 b hb2
        rcases List.mem_cons.1 hb2 with rfl | hb2
        · exact h2.2.lt
        · exact hu w2 h2.1 b hb2
      · intro hm
        exact Nat.lt_irrefl _ (hu w' hw' _ hm)

/-- Each operation of the head is waited for by a later one of it, or by all of the tail. -/
def endsB (md : Region.Mode) (ops : Array Oper) (n N : Nat) : Bool := (List.range n).all fun i => (List.range n).any (fun j => decide (i < j) && Region.waitsFor md ops j i) ||
  (List.range ops.size).all fun t => decide (t < N) || (Region.waitsFor md ops t i || (List.range t).any fun t' => decide (N ≤ t') && Region.waitsFor md ops t t')

theorem ends_open {n N : Nat} {done : Array Bool} (hE : endsB md ops n N = true) (h : Cl md ops done) :
    ∀ (k i : Nat), i + k = n → 0 < k → done.getD i false = false → ∀ (t : Nat), N ≤ t → t < ops.size → done.getD t false = false ∧ t ∉ Region.ready md ops done := by
  intro k
  induction k using Nat.strongRecOn with
  | _ k ih =>
    intro i hk hk0 hi
    have h1 := List.all_eq_true.1 hE i (List.mem_range.2 (by omega))
    simp only [Bool.or_eq_true] at h1
    rcases h1 with h1 | h1
    · obtain ⟨j, hj, hj2⟩ := List.any_eq_true.1 h1
      simp only [Bool.and_eq_true, decide_eq_true_eq] at hj2
      have hjn := List.mem_range.1 hj
      exact ih (n - j) (by omega) j (by omega) (by omega) (h.waits hj2.2 hi)
    · intro t
      induction t using Nat.strongRecOn with
      | _ t iht =>
        intro ht hs
        have h2 := List.all_eq_true.1 h1 t (List.mem_range.2 hs)
        simp only [Bool.or_eq_true, decide_eq_true_eq] at h2
        rcases h2 with h2 | h2 | h2
        · omega
        · exact ⟨h.waits h2 hi, not_ready h2 hi⟩
        · obtain ⟨t', ht', h3⟩ := List.any_eq_true.1 h2
          simp only [Bool.and_eq_true, decide_eq_true_eq] at h3
          have hlt := List.mem_range.1 ht'
          have h4 := (iht t' hlt h3.1 (by omega)).1
          exact ⟨h.waits h3.2 h4, not_ready h3.2 h4⟩

theorem whos_ends {n k : Nat} (hE : endsB md ops n (n + k) = true) (done : Array Bool) (hcl : Cl md ops done) (i : Nat) (hin : i < n) (hun : done.getD i false = false) : ∀ j ∈ Region.ready md ops done, j < n ∨ j ∈ (List.range k).map (n + ·) := by
  intro j hj
  obtain ⟨_, oj, hoj, _⟩ := mem_ready.1 hj
  have hjs : j < ops.size := (Array.getElem?_eq_some_iff.1 hoj).1
  by_cases h1 : j < n
  · exact .inl h1
  · by_cases h2 : j < n + k
    · exact .inr (List.mem_map.2 ⟨j - n, List.mem_range.2 (by omega), by omega⟩)
    · exact absurd hj (ends_open hE hcl (n - i) i (by omega) (by omega) hun j (by omega) hjs).2

/-- The check: n calm operations, then so many that make variables, then the tail. -/
def mixesB (md : Region.Mode) (ops : Array Oper) (n k : Nat) : Bool :=
  Region.noSelect ops && (decide (0 < n) && (decide (n + k ≤ ops.size) && (endsB md ops n (n + k) &&
    (lexTo md ops (fun _ done => mixB md ops (n + k) k done ((List.range k).map (n + ·))) n 0 (Array.replicate ops.size false)))))

/-- Calm operations, variables that are made at any time, then a tail. 'al': each one's place, slot and cells. -/
theorem wp_region_mix {id : Nat} {Q : Exit → Act → World → Prop} {a : Act} {w : World} {l : List Oper} (S : World → Prop) (n : Nat) (al : List (Nat × Tmp × Array Value)) (hal : al.map (·.1) = (List.range al.length).map (n + ·)) (hdd : (al.map (·.2.1)).Nodup)
    (hm : P.follows .mixedOrders = true) (hX : mixesB .any l.toArray n al.length = true) (hS : Lasting S) (h0 : S w.drew) (hM : ∀ x ∈ al, ∃ o, l.toArray[x.1]? = some o ∧ Makes P l.toArray o x.2.1 x.2.2)
    (h : wpCalm P l.toArray S (fun a' => Fin (fun X a'' => ∀ w', S w' → X w' → wpList P l.toArray Q (l.drop (n + al.length)) a'' w') w.heap.size al (fun _ => True) [] a') (l.take n) a) : (Code.region id l.toArray true).wp P Q a w := by
  simp only [mixesB, Bool.and_eq_true, decide_eq_true_eq] at hX
  obtain ⟨hsel, hn0, hps, hE, hlex⟩ := hX
  have hps' : n + al.length ≤ l.length := by simpa using hps
  have s4 : (l.take n).length = n := by simp; omega
  let T : (World → Prop) → Act → Prop := fun X a'' => ∀ w', S w' → X w' → wpList P l.toArray Q (l.drop (n + al.length)) a'' w'
  let L : (World → Prop) → Array Bool → Act → Prop := fun X done a' => (Region.ready .any l.toArray done).all (fun j => decide (n + al.length ≤ j)) = true ∧ Region.seqB .any l.toArray (l.toArray.size - (n + al.length)) (n + al.length) done = true ∧ T X a'
  have H := anyMix_lex (P := P) (S := S) (base := w.heap.size) (al := (List.range al.length).map (n + ·)) (r := al.length) (X := fun _ => True) (L := L) hsel (whos_ends hE)
    (fun X done a' hL j hj => by
      have := all_ge hL.1 j hj
      refine ⟨by omega, fun hm => ?_⟩
      obtain ⟨q, hq, e⟩ := List.mem_map.1 hm
      have := List.mem_range.1 hq
      omega) (l.take n) 0 _ a (fun j hj => by rw [s4] at hj; simp [hj]) (by rw [s4]; omega) (Cl.start _ _) (by rw [s4]; exact hlex) h
    (fun done a' hf hq => by
      refine mix_any (T := T) (fun X X' a hx ht w' hs hw => ht w' hs (hx w' hw)) (fun X done a h1 h2 h3 => ⟨h1, h2, h3⟩) al.length al _ [] done a' rfl (by rw [hal]; exact hf) hM ?_ hdd (fun _ _ b hb => by cases hb) hq
      rw [hal]
      exact List.Pairwise.map _ (fun p q (h : p ≠ q) => by omega) List.nodup_range)
  refine wp_region_any hm ?_
  have := anyMix_wpAny (Q := Q) (g := l.toArray.size - (n + al.length)) hS (fun X done a' w' hL hw' hx => seq_wp hL.2.1 (hL.2.2 w' hw' hx)) _ _ _ _ w.drew (fun _ _ _ _ => trivial) H h0 trivial (Nat.le_refl _)
  rw [s4, show n + al.length + (l.toArray.size - (n + al.length)) = l.toArray.size by simp; omega] at this
  exact this
end
end Go.Proofs.Ythkooiopiaakbaa
