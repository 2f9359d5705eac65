/- Regions that draw their order: calm operations (they read, or call what only makes memory of its own), a variable that is made at any time, and a tail that stores: one walk in the order of the text. -/
import Derived.StillTail
import Derived.BigQuiet
import Derived.Below
import Derived.Test.YthkooiopiaakbaaCentre
namespace Go.Proofs.Ythkooiopiaakbaa
open Go Go.RowKit

/-- What calls that only make memory of their own don't end. -/
def Lasting (S : World → Prop) : Prop := ∀ w w', S w → Below w.heap.size w w' → S w'

/-- In the world w the operation yields v there, or is a call that hands v back and only makes memory of its own. -/
def calmAt (P : Program) (o : Oper) (a : Act) (w : World) (v : Value) : Prop :=
  match (execOp a.eval o).run P w with
  | .ok (.value u) w' => w' = w ∧ u = v
  | .ok .skip w' => w' = w ∧ v = undef
  | .ok (.enter f args) w' => w' = w ∧ Calls P f args w (fun e w'' => e = .returned v ∧ Below w.heap.size w w'')
  | _ => False

/-- The operation yields v in every world of the class, or is passed over. -/
def Yie (P : Program) (ops : Array Oper) (S : World → Prop) (o : Oper) (v : Value) (a : Act) : Prop :=
  (Region.wanted o (yielded ops a.tmps) = true ∧ ∀ w, S w → calmAt P o a w v) ∨ (Region.wanted o (yielded ops a.tmps) = false ∧ v = undef)

/-- The walk in the order of the text. -/
def wpCalm (P : Program) (ops : Array Oper) (S : World → Prop) (Q : Act → Prop) : List Oper → Act → Prop
  | [], a => Q a
  | o :: l, a => ∃ v, Yie P ops S o v a ∧ wpCalm P ops S Q l (a.put o.dst v)

section
variable {P : Program} {ops : Array Oper} {md : Region.Mode} {S : World → Prop}

theorem Yie.mono {S' : World → Prop} (h : ∀ w, S' w → S w) {o : Oper} {v : Value} {a : Act} (y : Yie P ops S o v a) : Yie P ops S' o v a :=
  y.imp (fun ⟨h1, h2⟩ => ⟨h1, fun w hw => h2 w (h w hw)⟩) id

theorem Yie.put {x y : Oper} (hx : ∀ cs b, x.op ≠ .select cs b) {v : Value} {a : Act} {u : Value} (hap : ∀ d, y.dst = some d → d ∉ x.looksAt ops) : Yie P ops S x v (a.put y.dst u) ↔ Yie P ops S x v a := by
  unfold Yie calmAt
  rw [execOp_put x hx a y.dst u hap, wanted_put x a y.dst u hap]

theorem calm_wp {o : Oper} {a : Act} {w : World} {v : Value} {K : Act → World → Prop} {Q : Exit → Act → World → Prop} (h : calmAt P o a w v) (hK : ∀ w', Below w.heap.size w w' → K (a.put o.dst v) w') : o.wp P a w K Q := by
  unfold calmAt at h
  unfold Oper.wp
  generalize (execOp a.eval o).run P w = r at *
  cases r with
  | halt x w' => cases h
  | ok n w' =>
    cases n with
    | value u => obtain ⟨rfl, rfl⟩ := h; exact hK _ (Below.refl _ _)
    | skip => obtain ⟨rfl, rfl⟩ := h; exact hK _ (Below.refl _ _)
    | enter f args =>
      obtain ⟨rfl, h⟩ := h
      exact h.mono fun e w'' ⟨he, hb⟩ => by subst he; exact hK _ hb
    | _ => exact h.elim

theorem Yie.wpOp {i : Nat} {o : Oper} (hi : ops[i]? = some o) {a : Act} {w : World} {v : Value} {K : Act → World → Prop} {Q : Exit → Act → World → Prop} (hw : S w) (h : Yie P ops S o v a) (hK : ∀ w', Below w.heap.size w w' → K (a.put o.dst v) w') : wpOp P ops Q i K a w := by
  unfold Go.wpOp
  simp only [hi]
  rcases h with ⟨h1, h2⟩ | ⟨h1, rfl⟩
  · rw [if_pos h1]; exact .inl (calm_wp (h2 w hw) hK)
  · rw [if_neg (by rw [h1]; decide)]; exact hK w (Below.refl _ _)

/-- An operation that makes a variable with these cells. -/
structure Makes (P : Program) (ops : Array Oper) (o : Oper) (d : Tmp) (c : Array Value) : Prop where
  dst : o.dst = some d
  guard : o.guard = none
  looks : ∀ a w, ∃ t, (execOp a o).run P w = .ok (.value (.pointer (some ⟨w.heap.size, 0, none⟩))) (w.alloc (.cells c t))

theorem Makes.wpOp {i : Nat} {o : Oper} {d : Tmp} {c : Array Value} (hi : ops[i]? = some o) (h : Makes P ops o d c) {a : Act} {w : World} {K : Act → World → Prop} {Q : Exit → Act → World → Prop}
    (hK : ∀ w', Below w.heap.size w w' → At w' w.heap.size c → K (a.put (some d) (.pointer (some ⟨w.heap.size, 0, none⟩))) w') : wpOp P ops Q i K a w := by
  unfold Go.wpOp
  have hw : Region.wanted o (yielded ops a.tmps) = true := by unfold Region.wanted; rw [h.guard]
  simp only [hi, if_pos hw]
  left
  obtain ⟨t, ht⟩ := h.looks a.eval w
  unfold Oper.wp
  rw [ht, Oper.upon_value, h.dst]
  exact hK _ ((Below.refl _ _).alloc (Nat.le_refl _) _) (At.new _ _ _)

/-- What has come up has come up behind what it waits for. -/
structure Cl (md : Region.Mode) (ops : Array Oper) (done : Array Bool) : Prop where
  size : done.size = ops.size
  closed : ∀ j oj, ops[j]? = some oj → done.getD j false = true → ∀ e ∈ oj.after, Region.binds md e = true → done.getD e.on false = true

theorem Cl.set {done : Array Bool} (h : Cl md ops done) {i : Nat} (hi : i ∈ Region.ready md ops done) : Cl md ops (done.setIfInBounds i true) := by
  obtain ⟨_, oi, hoi, hall⟩ := mem_ready.1 hi
  refine ⟨by simp [h.size], fun j oj hj hl e he hb => ?_⟩
  by_cases hij : i = j
  · subst hij
    obtain rfl : oi = oj := Option.some.inj (hoi.symm.trans hj)
    exact getD_set_true (hall e he hb)
  · rw [getD_set_ne false hij] at hl
    exact getD_set_true (h.closed j oj hj hl e he hb)

theorem Cl.start (md : Region.Mode) (ops : Array Oper) : Cl md ops (Array.replicate ops.size false) :=
  ⟨by simp, fun j oj _ hl => by rw [getD_replicate_false] at hl; cases hl⟩

theorem Cl.waits {done : Array Bool} (h : Cl md ops done) {j i : Nat} (hw : Region.waitsFor md ops j i = true) (hi : done.getD i false = false) : done.getD j false = false := by
  obtain ⟨oj, hoj, e, he, hb, hon⟩ := Region.waitsFor_spec hw
  cases hl : done.getD j false with
  | false => rfl
  | true =>
    have := h.closed j oj hoj hl e he hb
    rw [hon, hi] at this
    cases this

theorem not_ready {done : Array Bool} {j i : Nat} (hw : Region.waitsFor md ops j i = true) (hi : done.getD i false = false) : j ∉ Region.ready md ops done := by
  intro hj
  obtain ⟨oj, hoj, e, he, hb, hon⟩ := Region.waitsFor_spec hw
  obtain ⟨_, oj', hoj', hall⟩ := mem_ready.1 hj
  obtain rfl : oj = oj' := Option.some.inj (hoj.symm.trans hoj')
  have := hall e he hb
  rw [hon, hi] at this
  cases this

/-- Each operation of the head is waited for, through others, by its last one. -/
def endB (md : Region.Mode) (ops : Array Oper) (n : Nat) : Bool := (List.range n).all fun i => decide (i + 1 = n) || (List.range n).any fun j => decide (i < j) && Region.waitsFor md ops j i
/-- Each operation behind the head, but number p, waits for the head's last one, through others. -/
def behindB (md : Region.Mode) (ops : Array Oper) (n p : Nat) : Bool := (List.range ops.size).all fun t => decide (t < n) || (decide (t = p) || (List.range t).any fun j => decide (n ≤ j + 1) && (decide (j ≠ p) && Region.waitsFor md ops t j))

theorem end_open {n : Nat} {done : Array Bool} (hE : endB md ops n = true) (h : Cl md ops done) : ∀ (m i : Nat), n - i = m → i < n → done.getD i false = false → done.getD (n - 1) false = false := by
  intro m
  induction m using Nat.strongRecOn with
  | _ m ih =>
    intro i hm hi hun
    have h1 := List.all_eq_true.1 hE i (List.mem_range.2 hi)
    simp only [Bool.or_eq_true, decide_eq_true_eq] at h1
    rcases h1 with h1 | h1
    · rw [show n - 1 = i by omega]; exact hun
    · obtain ⟨j, hj, hj2⟩ := List.any_eq_true.1 h1
      simp only [Bool.and_eq_true, decide_eq_true_eq] at hj2
      have hjn := List.mem_range.1 hj
      exact ih (n - j) (by omega) j rfl hjn (h.waits hj2.2 hun)

theorem behind_open {n p : Nat} {done : Array Bool} (hB : behindB md ops n p = true) (h : Cl md ops done) (hl : done.getD (n - 1) false = false) (hn : 0 < n) :
    ∀ (t : Nat), n ≤ t → t ≠ p → t < ops.size → done.getD t false = false ∧ t ∉ Region.ready md ops done := by
  intro t
  induction t using Nat.strongRecOn with
  | _ t ih =>
    intro ht hp hs
    have h1 := List.all_eq_true.1 hB t (List.mem_range.2 hs)
    simp only [Bool.or_eq_true, decide_eq_true_eq] at h1
    rcases h1 with h1 | h1 | h1
    · omega
    · exact absurd h1 hp
    · obtain ⟨j, hj, hj2⟩ := List.any_eq_true.1 h1
      simp only [Bool.and_eq_true, decide_eq_true_eq] at hj2
      have hjt := List.mem_range.1 hj
      have hjo : done.getD j false = false := by
        by_cases e : j = n - 1
        · rw [e]; exact hl
        · exact (ih j hjt (by omega) hj2.2.1 (by omega)).1
      exact ⟨h.waits hj2.2.2 hjo, not_ready hj2.2.2 hjo⟩

theorem who_end {n p : Nat} (hE : endB md ops n = true) (hB : behindB md ops n p = true) (done : Array Bool) (hcl : Cl md ops done) (i : Nat) (hin : i < n) (hun : done.getD i false = false) : ∀ j ∈ Region.ready md ops done, j < n ∨ j = p := by
  intro j hj
  have hlast := end_open hE hcl _ i rfl hin hun
  obtain ⟨_, oj, hoj, _⟩ := mem_ready.1 hj
  have hjs : j < ops.size := (Array.getElem?_eq_some_iff.1 hoj).1
  by_cases h1 : j < n
  · exact .inl h1
  · by_cases h2 : j = p
    · exact .inr h2
    · exact absurd hj (behind_open hB hcl hlast (by omega) j (by omega) h2 hjs).2

theorem sink_open {n : Nat} {done : Array Bool} (hs : Region.sinkB md ops n = true) (h : Cl md ops done) : ∀ (m i : Nat), n - i = m → i < n → done.getD i false = false → done.getD n false = false ∧ n ∉ Region.ready md ops done := by
  intro m
  induction m using Nat.strongRecOn with
  | _ m ih =>
    intro i hm hi hun
    obtain ⟨j, hj, hj2⟩ := List.any_eq_true.1 (List.all_eq_true.1 hs i (List.mem_range.2 hi))
    simp only [Bool.and_eq_true, decide_eq_true_eq] at hj2
    have hjn := List.mem_range.1 hj
    by_cases e : j = n
    · subst e; exact ⟨h.waits hj2.2 hun, not_ready hj2.2 hun⟩
    · exact ih (n - j) (by omega) j rfl (by omega) (h.waits hj2.2 hun)

theorem who_sink {n p : Nat} (hs : Region.sinkB md ops n = true) (hc : Region.chainB md ops n = true) (done : Array Bool) (hcl : Cl md ops done) (i : Nat) (hin : i < n) (hun : done.getD i false = false) : ∀ j ∈ Region.ready md ops done, j < n ∨ j = p := by
  have h0 := sink_open hs hcl _ i rfl hin hun
  have h1 : ∀ d, done.getD (n + d) false = false ∧ n + d ∉ Region.ready md ops done := by
    intro d
    induction d with
    | zero => exact h0
    | succ d ih =>
      by_cases hlt : n + (d + 1) < ops.size
      · have := List.all_eq_true.1 hc (n + (d + 1)) (List.mem_range.2 hlt)
        simp only [Bool.or_eq_true, decide_eq_true_eq] at this
        rcases this with h | h
        · omega
        · rw [show n + (d + 1) - 1 = n + d by omega] at h
          exact ⟨hcl.waits h ih.1, not_ready h ih.1⟩
      · refine ⟨?_, fun hj => ?_⟩
        · have : done.size = ops.size := hcl.size
          simp [Array.getElem?_eq_none (show done.size ≤ n + (d + 1) by omega)]
        · obtain ⟨_, oj, hoj, _⟩ := mem_ready.1 hj
          exact hlt (Array.getElem?_eq_some_iff.1 hoj).1
  intro j hj
  by_cases h : j < n
  · exact .inl h
  · have := (h1 (j - n)).2
    rw [show n + (j - n) = j by omega] at this
    exact absurd hj this

/-- Whichever order is picked: operations of the head are calm, number p makes the variable; then 'L' (0: the variable is made; 1: not yet). -/
def anyHead (P : Program) (md : Region.Mode) (ops : Array Oper) (S : World → Prop) (base n : Nat) (L : Nat → (World → Prop) → Array Bool → Act → Prop) : Nat → (World → Prop) → Array Bool → Act → Prop
  | 0, X, done, a => L 0 X done a
  | k + 1, X, done, a => L (k + 1) X done a ∨ (Region.ready md ops done ≠ [] ∧ ∀ i ∈ Region.ready md ops done,
      ((∃ o v, ops[i]? = some o ∧ Yie P ops S o v a ∧ anyHead P md ops S base n L k X (done.setIfInBounds i true) (a.put o.dst v)) ∨
       (∃ o d c, ops[i]? = some o ∧ Makes P ops o d c ∧ ∀ b, base ≤ b → anyHead P md ops S base n L k (fun w => X w ∧ At w b c) (done.setIfInBounds i true) (a.put (some d) (.pointer (some ⟨b, 0, none⟩))))))

theorem anyHead_wpAny (hS : Lasting S) {base n g : Nat} {L : Nat → (World → Prop) → Array Bool → Act → Prop} {Q : Exit → Act → World → Prop}
    (hL : ∀ k X done a w, L k X done a → Lasting X → S w → X w → base ≤ w.heap.size → wpAny P md ops Q (k + g) done a w) (k : Nat) :
    ∀ X done a w, Lasting X → anyHead P md ops S base n L k X done a → S w → X w → base ≤ w.heap.size → wpAny P md ops Q (k + g) done a w := by
  induction k with
  | zero => intro X done a w lX h hw hx hb; exact hL 0 _ _ _ _ h lX hw hx hb
  | succ k ih =>
    intro X done a w lX h hw hx hb
    rcases h with h | h
    · exact hL _ _ _ _ _ h lX hw hx hb
    rw [Nat.add_right_comm k 1 g]
    refine ⟨fun h0 => absurd h0 h.1, fun i hi => ?_⟩
    rcases h.2 i hi with ⟨o, v, ho, hy, hn⟩ | ⟨o, d, c, ho, hm, hn⟩
    · exact hy.wpOp ho hw fun w' hb' => ih X _ _ w' lX hn (hS _ _ hw hb') (lX _ _ hx hb') (Nat.le_trans hb hb'.size)
    · refine hm.wpOp ho fun w' hb' hat => ih _ _ _ w' ?_ (hn _ hb) (hS _ _ hw hb') ⟨lX _ _ hx hb', hat⟩ (Nat.le_trans hb hb'.size)
      exact fun w1 w2 h1 h2 => ⟨lX _ _ h1.1 h2, h1.2.below h2⟩

theorem anyHead_take {base n p i : Nat} {oi : Oper} {v : Value} {L : Nat → (World → Prop) → Array Bool → Act → Prop} (hi : ops[i]? = some oi) (hsel : Region.noSelect ops = true)
    (who' : ∀ done, Cl md ops done → ∀ i < n, done.getD i false = false → ∀ j ∈ Region.ready md ops done, j < n ∨ j = p) (hin : i < n)
    (hL0 : ∀ X done a, L 0 X done a → ∀ j ∈ Region.ready md ops done, n ≤ j ∧ j ≠ p) (hL1 : ∀ k X done a, L k X done a → ∀ j ∈ Region.ready md ops done, n ≤ j)
    (hLp : ∀ k X done a, L (k + 1) X done a → p ∈ Region.ready md ops done → ∃ o d c, ops[p]? = some o ∧ Makes P ops o d c ∧ ∀ b, base ≤ b → L k (fun w => X w ∧ At w b c) (done.setIfInBounds p true) (a.put (some d) (.pointer (some ⟨b, 0, none⟩)))) (k : Nat) :
    ∀ X done a, Cl md ops done →
      (∀ j oj, ops[j]? = some oj → j ≠ i → done.getD j true = false → (∀ e ∈ oj.after, Region.binds md e = true → e.on ≠ i) → oi.apart ops oj = true) →
      i ∈ Region.ready md ops done → Yie P ops S oi v a →
      anyHead P md ops S base n L k X (done.setIfInBounds i true) (a.put oi.dst v) → anyHead P md ops S base n L (k + 1) X done a := by
  have hns := Region.noSelect_spec hsel
  have who : ∀ {done : Array Bool}, Cl md ops done → i ∈ Region.ready md ops done → ∀ j ∈ Region.ready md ops done, j < n ∨ j = p :=
    fun hcl hr j hj => who' _ hcl i hin (getD_both (mem_ready.1 hr).1) j hj
  -- what is common: two operations, apart
  have two : ∀ {done : Array Bool} {a : Act}, (∀ j oj, ops[j]? = some oj → j ≠ i → done.getD j true = false → (∀ e ∈ oj.after, Region.binds md e = true → e.on ≠ i) → oi.apart ops oj = true) →
      i ∈ Region.ready md ops done → ∀ j, j ∈ Region.ready md ops done → j ≠ i → ∃ oj, ops[j]? = some oj ∧ (∀ d, oi.dst = some d → d ∉ oj.looksAt ops) ∧ (∀ d, oi.dst = some d → oj.dst ≠ some d) ∧ (∀ d, oj.dst = some d → d ∉ oi.looksAt ops) ∧
        (∀ k ok, ops[k]? = some ok → k ≠ i → (done.setIfInBounds j true).getD k true = false → (∀ x ∈ ok.after, Region.binds md x = true → x.on ≠ i) → oi.apart ops ok = true) := by
    intro done a hap hr j hj e
    obtain ⟨unj, oj, hoj, befj⟩ := mem_ready.1 hj
    have uni := (mem_ready.1 hr).1
    have free_i : ∀ x ∈ oj.after, Region.binds md x = true → x.on ≠ i := by
      intro x hx hb he
      have h1 := befj x hx hb
      rw [he, getD_both uni] at h1
      cases h1
    obtain ⟨p1, p2, p3⟩ := Oper.apart_spec (hap j oj hoj e unj free_i)
    refine ⟨oj, hoj, p1, p2, p3, fun k ok hk hki unk hno => hap k ok hk hki ?_ hno⟩
    by_cases hjk : j = k
    · subst hjk; exact unj
    · rwa [getD_set_ne true hjk] at unk
  induction k with
  | zero =>
    intro X done a hcl hap hr hy H
    refine .inr ⟨List.ne_nil_of_mem hr, fun j hj => ?_⟩
    by_cases e : j = i
    · subst e; exact .inl ⟨oi, v, hi, hy, H⟩
    · have h0 := hL0 _ _ _ H j (ready_mono hj e)
      rcases who hcl hr j hj with h | h
      · omega
      · exact absurd h h0.2
  | succ k ih =>
    intro X done a hcl hap hr hy H
    refine .inr ⟨List.ne_nil_of_mem hr, fun j hj => ?_⟩
    by_cases e : j = i
    · subst e; exact .inl ⟨oi, v, hi, hy, H⟩
    obtain ⟨oj, hoj, p1, p2, p3, hap'⟩ := two (a := a) hap hr j hj e
    rcases H with H | H
    · have h1 := hL1 _ _ _ _ H j (ready_mono hj e)
      rcases who hcl hr j hj with h | h
      · omega
      · subst h
        obtain ⟨o, d, c, ho, hm, hn⟩ := hLp _ _ _ _ H (ready_mono hj e)
        obtain rfl : oj = o := Option.some.inj (hoj.symm.trans ho)
        refine .inr ⟨oj, d, c, hoj, hm, fun b hb => ?_⟩
        have hd := hm.dst
        refine ih _ _ _ (hcl.set hj) hap' (ready_mono hr (Ne.symm e)) (by rw [← hd]; exact (Yie.put (hns i oi · · hi) p3).2 hy) ?_
        rw [Array.setIfInBounds_comm _ _ e, ← hd, ← Act.put_comm a v _ p2, hd]
        cases k with
        | zero => exact hn b hb
        | succ k => exact .inl (hn b hb)
    · rcases H.2 j (ready_mono hj e) with ⟨o, u, ho, hu, hnx⟩ | ⟨o, d, c, ho, hm, hnx⟩
      · obtain rfl : oj = o := Option.some.inj (hoj.symm.trans ho)
        refine .inl ⟨oj, u, hoj, (Yie.put (hns j oj · · hoj) p1).1 hu, ih X _ _ (hcl.set hj) hap' (ready_mono hr (Ne.symm e)) ((Yie.put (hns i oi · · hi) p3).2 hy) ?_⟩
        rw [Array.setIfInBounds_comm _ _ e, ← Act.put_comm a v u p2]
        exact hnx
      · obtain rfl : oj = o := Option.some.inj (hoj.symm.trans ho)
        refine .inr ⟨oj, d, c, hoj, hm, fun b hb => ?_⟩
        have hd := hm.dst
        refine ih _ _ _ (hcl.set hj) hap' (ready_mono hr (Ne.symm e)) (by rw [← hd]; exact (Yie.put (hns i oi · · hi) p3).2 hy) ?_
        rw [Array.setIfInBounds_comm _ _ e, ← hd, ← Act.put_comm a v _ p2, hd]
        exact hnx b hb

/-- The order of the text is open to so many operations, one after the other. -/
def lexTo (md : Region.Mode) (ops : Array Oper) (fin : Nat → Array Bool → Bool) : Nat → Nat → Array Bool → Bool
  | 0, k, done => fin k done
  | f + 1, k, done => (Region.ready md ops done).contains k && (Region.free md ops done k && lexTo md ops fin f (k + 1) (done.setIfInBounds k true))

theorem anyHead_lex {base n p r : Nat} {L : Nat → (World → Prop) → Array Bool → Act → Prop} {L0 : Act → Prop} {X : World → Prop} {fin : Nat → Array Bool → Bool} (hsel : Region.noSelect ops = true)
    (who' : ∀ done, Cl md ops done → ∀ i < n, done.getD i false = false → ∀ j ∈ Region.ready md ops done, j < n ∨ j = p)
    (hL0 : ∀ X done a, L 0 X done a → ∀ j ∈ Region.ready md ops done, n ≤ j ∧ j ≠ p) (hL1 : ∀ k X done a, L k X done a → ∀ j ∈ Region.ready md ops done, n ≤ j)
    (hLp : ∀ k X done a, L (k + 1) X done a → p ∈ Region.ready md ops done → ∃ o d c, ops[p]? = some o ∧ Makes P ops o d c ∧ ∀ b, base ≤ b → L k (fun w => X w ∧ At w b c) (done.setIfInBounds p true) (a.put (some d) (.pointer (some ⟨b, 0, none⟩)))) :
    ∀ (l : List Oper) (k : Nat) (done : Array Bool) (a : Act), (∀ j, j < l.length → l[j]? = ops[k + j]?) → k + l.length ≤ n → Cl md ops done →
    lexTo md ops fin l.length k done = true → wpCalm P ops S L0 l a →
    (∀ done a, fin (k + l.length) done = true → L0 a → anyHead P md ops S base n L r X done a) →
    anyHead P md ops S base n L (l.length + r) X done a := by
  intro l
  induction l with
  | nil => intro k done a _ _ _ hB h hend; simpa using hend done a hB h
  | cons o l ih =>
    intro k done a hl hk hcl hX h hend
    simp only [List.length_cons] at hk
    have ho : ops[k]? = some o := by simpa using (hl 0 (by simp)).symm
    simp only [List.length_cons, lexTo, Bool.and_eq_true] at hX
    have hr : k ∈ Region.ready md ops done := by simpa using hX.1
    obtain ⟨v, hy, hK⟩ := h
    rw [show (o :: l).length + r = l.length + r + 1 by simp; omega]
    refine anyHead_take ho hsel who' (by omega) hL0 hL1 hLp _ X done a hcl (Region.free_spec ho hX.2.1) hr hy ?_
    refine ih (k + 1) _ _ (fun j hj => ?_) (by omega) (hcl.set hr) hX.2.2 hK (fun done a hf hQ => hend done a (by rw [← hf]; congr 1; simp; omega) hQ)
    have := hl (j + 1) (by simp; omega)
    rw [Nat.add_assoc, Nat.add_comm 1 j]
    simpa using this

/-- Operations that look at no world. -/
def pureB (o : Oper) : Bool := match o.op with | .move _ | .assign _ | .extract .. => true | _ => false

/-- A walk of such ones. -/
def Pu (P : Program) (ops : Array Oper) : List Oper → Act → Act → Prop
  | [], a, a' => a' = a
  | o :: l, a, a' => ∃ v, Yields P ops o v a ∧ Pu P ops l (a.put o.dst v) a'

theorem pure_yields {o : Oper} (hp : pureB o = true) {a : Act} {v : Value} {w : World} (hw : S w) (h : Yie P ops S o v a) : Yields P ops o v a := by
  rcases h with ⟨h1, h2⟩ | h
  · refine .inl ⟨h1, fun w' => ?_⟩
    have h2 := h2 w hw
    unfold calmAt at h2
    unfold pureB at hp
    unfold execOp at *
    split at h2
    · rename_i u w1 e
      obtain ⟨rfl, rfl⟩ := h2
      cases e0 : o.op <;> simp only [e0] at hp e ⊢ <;> first | (cases hp; done) | skip
      · simp at e ⊢; exact e
      · simp at e ⊢; exact e
      · rename_i t ix
        unfold Instr.extract at *
        cases e1 : a.eval t <;> simp only [e1] at e ⊢ <;> first | (simp at e; done) | skip
        rename_i vs
        cases e2 : vs[ix]? <;> simp [e2] at e ⊢
        exact e
    · rename_i w1 e
      cases e0 : o.op <;> simp only [e0] at hp e <;> first | (cases hp; done) | skip
      · simp at e
      · simp at e
      · rename_i t ix
        unfold Instr.extract at *
        cases e1 : a.eval t <;> simp only [e1] at e <;> first | (simp at e; done) | skip
        rename_i vs
        cases e2 : vs[ix]? <;> simp [e2] at e
    · rename_i f args w1 e
      cases e0 : o.op <;> simp only [e0] at hp e <;> first | (cases hp; done) | skip
      · simp at e
      · simp at e
      · rename_i t ix
        unfold Instr.extract at *
        cases e1 : a.eval t <;> simp only [e1] at e <;> first | (simp at e; done) | skip
        rename_i vs
        cases e2 : vs[ix]? <;> simp [e2] at e
    · exact h2.elim
  · exact .inr h

theorem wpCalm_append {Q : Act → Prop} {l' : List Oper} : ∀ {l : List Oper} {a : Act}, wpCalm P ops S Q (l ++ l') a → wpCalm P ops S (wpCalm P ops S Q l') l a
  | [], _, h => h
  | _ :: _, _, ⟨v, hy, h⟩ => ⟨v, hy, wpCalm_append h⟩

theorem wpCalm_pure {Q : Act → Prop} {w : World} (hw : S w) : ∀ {l : List Oper} {a : Act}, l.all pureB = true → wpCalm P ops S Q l a → ∃ a', Pu P ops l a a' ∧ Q a'
  | [], a, _, h => ⟨a, rfl, h⟩
  | o :: l, a, hp, ⟨v, hy, h⟩ => by
    simp only [List.all_cons, Bool.and_eq_true] at hp
    obtain ⟨a', h1, h2⟩ := wpCalm_pure hw hp.2 h
    exact ⟨a', ⟨v, pure_yields hp.1 hw hy, h1⟩, h2⟩

/-- A slot that none of them looks at or writes. -/
def asideB (ops : Array Oper) (d : Tmp) (o : Oper) : Bool := !(o.looksAt ops).contains d && decide (o.dst ≠ some d)

theorem Pu.put {d : Tmp} {u : Value} : ∀ {l : List Oper} {a a' : Act}, (∀ o ∈ l, ∀ cs b, o.op ≠ .select cs b) → l.all (asideB ops d) = true → Pu P ops l a a' → Pu P ops l (a.put (some d) u) (a'.put (some d) u)
  | [], a, a', _, _, h => by cases h; rfl
  | o :: l, a, a', hs, hd, ⟨v, hy, h⟩ => by
    simp only [List.all_cons, Bool.and_eq_true, asideB, Bool.not_eq_true', decide_eq_true_eq] at hd
    have h1 : ∀ e, some d = some e → e ∉ o.looksAt ops := by
      intro e he hm
      cases he
      have := hd.1.1
      simp at this
      exact this hm
    refine ⟨v, ?_, ?_⟩
    · exact hy.of_same (execOp_put o (hs o (by simp)) a (some d) u h1) (wanted_put o a (some d) u h1)
    · have := Pu.put (d := d) (u := u) (fun x hx => hs x (by simp [hx])) (by simpa [asideB] using hd.2) h
      rwa [Act.put_comm a u v (x := some d) (y := o.dst) (fun e he => by cases he; exact hd.1.2)]

theorem Pu_wpAny {Q : Exit → Act → World → Prop} {fin : Nat → Array Bool → Bool} {g : Nat} (hsel : Region.noSelect ops = true) (hQ : ∀ c a d v w, Q (.panic c) (a.put d v) w → Q (.panic c) a w) {w : World} :
    ∀ (l : List Oper) (k : Nat) (done : Array Bool) (a a' : Act), (∀ j, j < l.length → l[j]? = ops[k + j]?) → lexTo md ops fin l.length k done = true → Pu P ops l a a' →
    (∀ done, fin (k + l.length) done = true → wpAny P md ops Q g done a' w) → wpAny P md ops Q (l.length + g) done a w := by
  intro l
  induction l with
  | nil => intro k done a a' _ hX h hend; cases h; simpa using hend done hX
  | cons o l ih =>
    intro k done a a' hl hX h hend
    have ho : ops[k]? = some o := by simpa using (hl 0 (by simp)).symm
    simp only [List.length_cons, lexTo, Bool.and_eq_true] at hX
    have hr : k ∈ Region.ready md ops done := by simpa using hX.1
    obtain ⟨v, hy, h⟩ := h
    rw [show (o :: l).length + g = l.length + g + 1 by simp; omega]
    refine wpAny_first ho (Region.noSelect_spec hsel) (fun c a w h => hQ c a _ _ w h) _ done a w (Region.free_spec ho hX.2.1) hr hy ?_
    refine ih (k + 1) _ _ _ (fun j hj => ?_) hX.2.2 h (fun done hf => hend done (by rw [← hf]; congr 1; simp; omega))
    have := hl (j + 1) (by simp; omega)
    rw [Nat.add_assoc, Nat.add_comm 1 j]
    simpa using this

theorem seq_wp {Q : Exit → Act → World → Prop} {l : List Oper} {n : Nat} {done : Array Bool} {a : Act} {w : World} (h1 : Region.seqB md l.toArray (l.toArray.size - n) n done = true) (h2 : wpList P l.toArray Q (l.drop n) a w) : wpAny P md l.toArray Q (l.toArray.size - n) done a w := by
  have hdl : (l.drop n).length = l.toArray.size - n := by simp
  have := wpAny_of_seq (md := md) (Q' := Q) (l.drop n) n done a w (fun j => by simp [List.getElem?_drop]) (by rw [hdl]; exact h1) h2
  rwa [hdl] at this

/-- The check: n calm operations, then pure ones up to p, where the tail begins. -/
def tailB (md : Region.Mode) (ops : Array Oper) (n p : Nat) : Bool :=
  Region.noSelect ops && (decide (0 < n) && (decide (n ≤ p) && (decide (p ≤ ops.size) && (endB md ops n && (behindB md ops n ops.size && (((ops.toList.take p).drop n).all pureB &&
    lexTo md ops (fun _ done => (Region.ready md ops done).all (fun j => decide (n ≤ j)) && lexTo md ops (fun k done => Region.seqB md ops (ops.size - p) k done) (p - n) n done) n 0 (Array.replicate ops.size false)))))))

/-- The check: likewise, number p making a variable in slot d, behind it the tail. -/
def floatB (md : Region.Mode) (ops : Array Oper) (n p : Nat) (d : Tmp) : Bool :=
  Region.noSelect ops && (decide (0 < n) && (decide (n ≤ p) && (decide (p < ops.size) && (endB md ops n && (behindB md ops n p && (((ops.toList.take p).drop n).all pureB && (((ops.toList.take p).drop n).all (asideB ops d) &&
    lexTo md ops (fun _ done => (Region.ready md ops done).all (fun j => decide (n ≤ j)) && ((Region.ready md ops (done.setIfInBounds p true)).all (fun j => decide (n ≤ j) && decide (j ≠ p)) &&
      (lexTo md ops (fun k done => decide (Region.ready md ops done = [k]) && Region.seqB md ops (ops.size - (p + 1)) (k + 1) (done.setIfInBounds k true)) (p - n) n done &&
        lexTo md ops (fun k done => Region.seqB md ops (ops.size - (p + 1)) (k + 1) done) (p - n) n (done.setIfInBounds p true)))) n 0 (Array.replicate ops.size false))))))))

theorem all_ge {n : Nat} {l : List Nat} (h : l.all (fun j => decide (n ≤ j)) = true) : ∀ j ∈ l, n ≤ j := fun j hj => by simpa using List.all_eq_true.1 h j hj

theorem seg {l : List Oper} {n p : Nat} (hn : n ≤ p) (hp : p ≤ l.length) : ((l.take p).drop n).length = p - n ∧ (∀ j, j < ((l.take p).drop n).length → ((l.take p).drop n)[j]? = l.toArray[n + j]?) ∧ l.take p = l.take n ++ (l.take p).drop n ∧ (l.take n).length = n := by
  have e : ((l.take p).drop n).length = p - n := by simp; omega
  refine ⟨e, fun j hj => ?_, ?_, by simp; omega⟩
  · rw [e] at hj
    rw [List.getElem?_drop, List.getElem?_take_of_lt (by omega)]
    simp
  · have := (List.take_append_drop n (l.take p)).symm
    rwa [List.take_take, Nat.min_eq_left hn] at this

/-- Calm operations (n, then pure ones up to p), then a tail. -/
theorem wp_region_tail {id : Nat} {Q : Exit → Act → World → Prop} {a : Act} {w : World} {l : List Oper} (S : World → Prop) (n p : Nat) (hm : P.follows .mixedOrders = true) (hX : tailB .any l.toArray n p = true)
    (hQ : ∀ c a d v w, Q (.panic c) (a.put d v) w → Q (.panic c) a w) (hS : Lasting S) (h0 : S w.drew)
    (h : wpCalm P l.toArray S (fun a' => ∀ w', S w' → wpList P l.toArray Q (l.drop p) a' w') (l.take p) a) : (Code.region id l.toArray true).wp P Q a w := by
  simp only [tailB, Bool.and_eq_true, decide_eq_true_eq] at hX
  obtain ⟨hsel, hn0, hnp, hps, hE, hB, hpu, hlex⟩ := hX
  have hps' : p ≤ l.length := by simpa using hps
  obtain ⟨s1, s2, s3, s4⟩ := seg hnp hps'
  rw [s3] at h
  have h := wpCalm_append h
  let L : Nat → (World → Prop) → Array Bool → Act → Prop := fun k _ done a' => k = 0 ∧ (Region.ready .any l.toArray done).all (fun j => decide (n ≤ j)) = true ∧ lexTo .any l.toArray (fun k done => Region.seqB .any l.toArray (l.toArray.size - p) k done) (p - n) n done = true ∧
    ∃ a2, Pu P l.toArray ((l.take p).drop n) a' a2 ∧ ∀ w', S w' → wpList P l.toArray Q (l.drop p) a2 w'
  have H := anyHead_lex (P := P) (S := S) (base := 0) (p := l.toArray.size) (r := 0) (X := fun _ => True) (L := L) hsel (who_end hE hB)
    (fun X done a' hL j hj => ⟨all_ge hL.2.1 j hj, by obtain ⟨_, oj, hoj, _⟩ := mem_ready.1 hj; have := (Array.getElem?_eq_some_iff.1 hoj).1; omega⟩) (fun k X done a' hL => all_ge hL.2.1)
    (fun k X done a' hL _ => absurd hL.1 (by omega)) (l.take n) 0 _ a (fun j hj => by rw [s4] at hj; simp [hj]) (by rw [s4]; omega) (Cl.start _ _) (by rw [s4]; exact hlex) h
    (fun done a' hf hq => by
      simp only [Bool.and_eq_true] at hf
      have hpu' : ((l.take p).drop n).all pureB = true := by simpa using hpu
      obtain ⟨a2, g1, g2⟩ := wpCalm_pure h0 hpu' hq
      exact ⟨rfl, hf.1, hf.2, a2, g1, g2⟩)
  refine wp_region_any hm ?_
  have := anyHead_wpAny (Q := Q) (g := (p - n) + (l.toArray.size - p)) hS (fun k X done a' w' hL _ hw' _ _ => by
    obtain ⟨rfl, _, g2, a2, g3, g4⟩ := hL
    rw [Nat.zero_add, ← s1]
    refine Pu_wpAny (fin := fun k done => Region.seqB .any l.toArray (l.toArray.size - p) k done) hsel hQ _ n done a' a2 s2 (by rw [s1]; exact g2) g3 fun done hf => ?_
    rw [s1, show n + (p - n) = p by omega] at hf
    exact seq_wp hf (g4 w' hw')) _ _ _ _ w.drew (fun _ _ _ _ => trivial) H h0 trivial (Nat.zero_le _)
  rw [s4, show n + 0 + ((p - n) + (l.toArray.size - p)) = l.toArray.size by omega] at this
  exact this

/-- The check: n calm operations, each of them needed by number n, where the tail begins. -/
def sinksB (md : Region.Mode) (ops : Array Oper) (n : Nat) : Bool :=
  Region.noSelect ops && (decide (n < ops.size) && (Region.sinkB md ops n && (Region.chainB md ops n &&
    lexTo md ops (fun _ done => (Region.ready md ops done).all (fun j => decide (n ≤ j)) && Region.seqB md ops (ops.size - n) n done) n 0 (Array.replicate ops.size false))))

/-- Calm operations, each of them needed by the first one of the tail. -/
theorem wp_region_sink {id : Nat} {Q : Exit → Act → World → Prop} {a : Act} {w : World} {l : List Oper} (S : World → Prop) (n : Nat) (hm : P.follows .mixedOrders = true) (hX : sinksB .any l.toArray n = true)
    (hS : Lasting S) (h0 : S w.drew)
    (h : wpCalm P l.toArray S (fun a' => ∀ w', S w' → wpList P l.toArray Q (l.drop n) a' w') (l.take n) a) : (Code.region id l.toArray true).wp P Q a w := by
  simp only [sinksB, Bool.and_eq_true, decide_eq_true_eq] at hX
  obtain ⟨hsel, hn, hs, hc, hlex⟩ := hX
  have hn' : n < l.length := by simpa using hn
  have s4 : (l.take n).length = n := by simp; omega
  let L : Nat → (World → Prop) → Array Bool → Act → Prop := fun k _ done a' => k = 0 ∧ (Region.ready .any l.toArray done).all (fun j => decide (n ≤ j)) = true ∧ Region.seqB .any l.toArray (l.toArray.size - n) n done = true ∧ ∀ w', S w' → wpList P l.toArray Q (l.drop n) a' w'
  have H := anyHead_lex (P := P) (S := S) (base := 0) (p := l.toArray.size) (r := 0) (X := fun _ => True) (L := L) hsel (who_sink hs hc)
    (fun X done a' hL j hj => ⟨all_ge hL.2.1 j hj, by obtain ⟨_, oj, hoj, _⟩ := mem_ready.1 hj; have := (Array.getElem?_eq_some_iff.1 hoj).1; omega⟩) (fun k X done a' hL => all_ge hL.2.1)
    (fun k X done a' hL _ => absurd hL.1 (by omega)) (l.take n) 0 _ a (fun j hj => by rw [s4] at hj; simp [hj]) (by rw [s4]; omega) (Cl.start _ _) (by rw [s4]; exact hlex) h
    (fun done a' hf hq => by
      simp only [Bool.and_eq_true] at hf
      exact ⟨rfl, hf.1, hf.2, hq⟩)
  refine wp_region_any hm ?_
  have := anyHead_wpAny (Q := Q) (g := l.toArray.size - n) hS (fun k X done a' w' hL _ hw' _ _ => by
    obtain ⟨rfl, _, g2, g3⟩ := hL
    rw [Nat.zero_add]
    exact seq_wp g2 (g3 w' hw')) _ _ _ _ w.drew (fun _ _ _ _ => trivial) H h0 trivial (Nat.zero_le _)
  rw [s4, show n + 0 + (l.toArray.size - n) = l.toArray.size by omega] at this
  exact this

/-- Calm operations (n, then pure ones up to p), number p that makes a variable at any time, then a tail. -/
theorem wp_region_float {id : Nat} {Q : Exit → Act → World → Prop} {a : Act} {w : World} {l : List Oper} (S : World → Prop) (n p : Nat) (d : Tmp) (hm : P.follows .mixedOrders = true) (hX : floatB .any l.toArray n p d = true)
    (hQ : ∀ c a d v w, Q (.panic c) (a.put d v) w → Q (.panic c) a w) (hS : Lasting S) (h0 : S w.drew) {o : Oper} {c : Array Value} (ho : l.toArray[p]? = some o) (hM : Makes P l.toArray o d c)
    (h : wpCalm P l.toArray S (fun a' => ∀ b w', w.heap.size ≤ b → S w' → At w' b c → wpList P l.toArray Q (l.drop (p + 1)) (a'.put (some d) (.pointer (some ⟨b, 0, none⟩))) w') (l.take p) a) : (Code.region id l.toArray true).wp P Q a w := by
  simp only [floatB, Bool.and_eq_true, decide_eq_true_eq] at hX
  obtain ⟨hsel, hn0, hnp, hps, hE, hB, hpu, has, hlex⟩ := hX
  have hps' : p < l.length := by simpa using hps
  obtain ⟨s1, s2, s3, s4⟩ := seg hnp (Nat.le_of_lt hps')
  have hpu' : ((l.take p).drop n).all pureB = true := by simpa using hpu
  have has' : ((l.take p).drop n).all (asideB l.toArray d) = true := by simpa using has
  have hns : ∀ o ∈ (l.take p).drop n, ∀ cs b, o.op ≠ .select cs b := by
    intro o ho cs b
    obtain ⟨j, hj⟩ := List.getElem?_of_mem ho
    obtain ⟨hj1, _⟩ := List.getElem?_eq_some_iff.1 hj
    rw [s2 j hj1] at hj
    exact Region.noSelect_spec hsel _ _ cs b hj
  rw [s3] at h
  have h := wpCalm_append h
  let T : Act → Prop := fun a' => ∀ b w', w.heap.size ≤ b → S w' → At w' b c → wpList P l.toArray Q (l.drop (p + 1)) (a'.put (some d) (.pointer (some ⟨b, 0, none⟩))) w'
  let made : Array Bool → Prop := fun done => (Region.ready .any l.toArray done).all (fun j => decide (n ≤ j) && decide (j ≠ p)) = true ∧ lexTo .any l.toArray (fun k done => Region.seqB .any l.toArray (l.toArray.size - (p + 1)) (k + 1) done) (p - n) n done = true
  let L : Nat → (World → Prop) → Array Bool → Act → Prop := fun k X done a' =>
    (k = 0 ∧ made done ∧ ∃ b, w.heap.size ≤ b ∧ (∀ w', X w' → At w' b c) ∧ ∃ a2, Pu P l.toArray ((l.take p).drop n) a' (a2.put (some d) (.pointer (some ⟨b, 0, none⟩))) ∧ T a2) ∨
    (k = 1 ∧ (Region.ready .any l.toArray done).all (fun j => decide (n ≤ j)) = true ∧ lexTo .any l.toArray (fun k done => decide (Region.ready .any l.toArray done = [k]) && Region.seqB .any l.toArray (l.toArray.size - (p + 1)) (k + 1) (done.setIfInBounds k true)) (p - n) n done = true ∧
      made (done.setIfInBounds p true) ∧ ∃ a2, Pu P l.toArray ((l.take p).drop n) a' a2 ∧ T a2)
  have hmade : ∀ {done : Array Bool}, made done → ∀ j ∈ Region.ready .any l.toArray done, n ≤ j ∧ j ≠ p := fun h j hj => by simpa using List.all_eq_true.1 h.1 j hj
  have H := anyHead_lex (P := P) (S := S) (base := w.heap.size) (p := p) (r := 1) (X := fun _ => True) (L := L) hsel (who_end hE hB)
    (fun X done a' hL j hj => by
      rcases hL with hL | hL
      · exact hmade hL.2.1 j hj
      · exact absurd hL.1 (by omega))
    (fun k X done a' hL j hj => by
      rcases hL with hL | hL
      · exact (hmade hL.2.1 j hj).1
      · exact all_ge hL.2.1 j hj)
    (fun k X done a' hL _ => by
      rcases hL with hL | ⟨hk, g1, g2, g3, a2, g4, g5⟩
      · exact absurd hL.1 (by omega)
      · obtain rfl : k = 0 := by omega
        exact ⟨o, d, c, ho, hM, fun b hb => .inl ⟨rfl, g3, b, hb, fun w' hw' => hw'.2, a2, g4.put hns has', g5⟩⟩)
    (l.take n) 0 _ a (fun j hj => by rw [s4] at hj; simp [hj]) (by rw [s4]; omega) (Cl.start _ _) (by rw [s4]; exact hlex) h
    (fun done a' hf hq => by
      simp only [Bool.and_eq_true] at hf
      obtain ⟨f1, f2, f3, f4⟩ := hf
      obtain ⟨a2, g1, g2⟩ := wpCalm_pure h0 hpu' hq
      refine .inl (.inr ⟨rfl, f1, ?_, ⟨?_, f4⟩, a2, g1, g2⟩)
      · exact f3
      · exact f2)
  refine wp_region_any hm ?_
  have := anyHead_wpAny (Q := Q) (g := (p - n) + (l.toArray.size - (p + 1))) hS (fun k X done a' w' hL lX hw' hx hb => by
    rcases hL with ⟨rfl, g1, b, hb, g2, a2, g3, g4⟩ | ⟨rfl, g1, g2, g3, a2, g4, g5⟩
    · rw [Nat.zero_add, ← s1]
      refine Pu_wpAny (fin := fun k done => Region.seqB .any l.toArray (l.toArray.size - (p + 1)) (k + 1) done) hsel hQ _ n done a' _ s2 (by rw [s1]; exact g1.2) g3 fun done hf => ?_
      rw [s1, show n + (p - n) + 1 = p + 1 by omega] at hf
      exact seq_wp hf (g4 b w' hb hw' (g2 w' hx))
    · rw [show 1 + (p - n + (l.toArray.size - (p + 1))) = ((l.take p).drop n).length + (l.toArray.size - (p + 1) + 1) by rw [s1]; omega]
      refine Pu_wpAny (fin := fun k done => decide (Region.ready .any l.toArray done = [k]) && Region.seqB .any l.toArray (l.toArray.size - (p + 1)) (k + 1) (done.setIfInBounds k true)) hsel hQ _ n done a' a2 s2 (by rw [s1]; exact g2) g4 fun done hf => ?_
      rw [s1, show n + (p - n) = p by omega] at hf
      simp only [Bool.and_eq_true, decide_eq_true_eq] at hf
      refine ⟨(fun h => by rw [hf.1] at h; cases h), fun i hi => ?_⟩
      rw [hf.1] at hi
      obtain rfl : i = p := by simpa using hi
      exact hM.wpOp ho fun w1 hb1 hat => seq_wp hf.2 (g5 _ w1 hb (hS _ _ hw' hb1) hat)) _ _ _ _ w.drew (fun _ _ _ _ => trivial) H h0 trivial (Nat.le_refl _)
  rw [s4, show n + 1 + ((p - n) + (l.toArray.size - (p + 1))) = l.toArray.size by simp at hps ⊢; omega] at this
  exact this

end
end Go.Proofs.Ythkooiopiaakbaa
