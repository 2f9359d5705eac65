/- The symbolic machine's memory, and how a world stands to it. -/
import Derived.Test.YtipcoahafdolcaaEva
import Derived.Laws.StructEq
namespace Go.Proofs.Ytipcoahafdolcaa.Ev
set_option linter.unusedSimpArgs false
open Go Go.RowKit
set_option linter.unusedVariables false

/-- A block of memory: its cells, the type of its elements, whether it may not be written, whether more cells lie behind. -/
structure Blk where
  cells : List SV
  elem : TypeId
  ro : Bool
  opn : Bool
  deriving Inhabited
abbrev Hp := List (Option Blk)

/-- The world holds the known blocks. -/
structure HRel (P : Program) (ρ : Env) (σ : Sg) (H : Hp) (w : World) : Prop where
  blk : ∀ b x, H[b]? = some (some x) → insideL H.length x.cells = true ∧ ∃ rest : List Value, w.heap[σ.blk b]? = some (.cells (denL ρ σ x.cells ++ rest).toArray x.elem (0, 0)) ∧
    (x.opn = false → rest = []) ∧ (x.opn = true → x.cells.length + rest.length = σ.cap b * P.cellsOf x.elem)
  inj : ∀ b b' x x', H[b]? = some (some x) → H[b']? = some (some x') → σ.blk b = σ.blk b' → b = b'

/-- What a step leaves: W are the blocks that were written. -/
structure Post (P : Program) (ρ : Env) (σ σ' : Sg) (H H' : Hp) (W : List Nat) (w w' : World) : Prop where
  ext : σ.agree H.length σ'
  len : H.length ≤ H'.length
  rel : HRel P ρ σ' H' w'
  new : ∀ b, H.length ≤ b → b < H'.length → w.heap.size ≤ σ'.blk b ∨ ∃ c ∈ W, c < H.length ∧ σ.blk c = σ'.blk b
  os : w'.os = w.os
  tape : w'.tape = w.tape
  out : w'.output = w.output
  size : w.heap.size ≤ w'.heap.size
  frame : ∀ k, k < w.heap.size → (∀ b ∈ W, b < H.length → σ.blk b ≠ k) → w'.heap[k]? = w.heap[k]?
  kept : ∀ b, b < H.length → b ∉ W → H'[b]? = H[b]?

theorem Post.refl {P : Program} {ρ : Env} {σ : Sg} {H : Hp} {w : World} (h : HRel P ρ σ H w) : Post P ρ σ σ H H [] w w :=
  ⟨fun _ _ => ⟨rfl, rfl⟩, Nat.le_refl _, h, fun b h1 h2 => by omega, rfl, rfl, rfl, Nat.le_refl _, fun _ _ _ => rfl, fun _ _ _ => rfl⟩

theorem Sg.agree.trans {n m : Nat} {σ σ1 σ2 : Sg} (h : σ.agree n σ1) (hm : n ≤ m) (h' : σ1.agree m σ2) : σ.agree n σ2 :=
  fun b hb => ⟨(h' b (by omega)).1.trans (h b hb).1, (h' b (by omega)).2.trans (h b hb).2⟩

theorem Post.trans {P : Program} {ρ1 ρ : Env} {σ σ1 σ2 : Sg} {H H1 H2 : Hp} {W W2 : List Nat} {w w1 w2 : World} (h : Post P ρ1 σ σ1 H H1 W w w1) (h' : Post P ρ σ1 σ2 H1 H2 W2 w1 w2) :
    Post P ρ σ σ2 H H2 (W ++ W2) w w2 := by
  have hl := h.len; have hl' := h'.len
  refine ⟨h.ext.trans hl h'.ext, Nat.le_trans hl hl', h'.rel, fun b h1 h2 => ?_, h'.os.trans h.os, h'.tape.trans h.tape, h'.out.trans h.out, Nat.le_trans h.size h'.size, fun k hk hW => ?_, fun b hb hW => ?_⟩
  · by_cases hb : b < H1.length
    · rw [(h'.ext b hb).1]
      exact (h.new b h1 hb).imp id fun ⟨c, hc, e⟩ => ⟨c, List.mem_append_left _ hc, e⟩
    · rcases h'.new b (by omega) h2 with h3 | ⟨c, hc, hc1, e⟩
      · exact .inl (Nat.le_trans h.size h3)
      · by_cases hc0 : c < H.length
        · exact .inr ⟨c, List.mem_append_right _ hc, hc0, by rw [← e, (h.ext c hc0).1]⟩
        · rcases h.new c (by omega) hc1 with h3 | ⟨c', hc', e'⟩
          · exact .inl (by rw [← e]; exact h3)
          · exact .inr ⟨c', List.mem_append_left _ hc', e'.1, e'.2.trans e⟩
  · rw [h'.frame k (Nat.lt_of_lt_of_le hk h.size) ?_, h.frame k hk fun b hb => hW b (List.mem_append_left _ hb)]
    intro b hb hb1
    by_cases hb0 : b < H.length
    · rw [(h.ext b hb0).1]; exact hW b (List.mem_append_right _ hb) hb0
    · rcases h.new b (by omega) hb1 with h3 | ⟨c, hc, hc0, e⟩
      · omega
      · rw [← e]; exact hW c (List.mem_append_left _ hc) hc0
  · simp only [List.mem_append, not_or] at hW
    rw [h'.kept b (by omega) hW.2, h.kept b hb hW.1]

theorem Post.drew {P : Program} {ρ : Env} {σ σ' : Sg} {H H' : Hp} {W : List Nat} {w w' : World} (h : Post P ρ σ σ' H H' W w.drew w') : Post P ρ σ σ' H H' W w w' :=
  ⟨h.ext, h.len, h.rel, h.new, h.os, h.tape, h.out, h.size, h.frame, h.kept⟩
theorem HRel.drew {P : Program} {ρ : Env} {σ : Sg} {H : Hp} {w : World} (h : HRel P ρ σ H w) : HRel P ρ σ H w.drew := ⟨h.blk, h.inj⟩

theorem HRel.lt {P : Program} {ρ : Env} {σ : Sg} {H : Hp} {w : World} (h : HRel P ρ σ H w) {b : Nat} {x : Blk} (hb : H[b]? = some (some x)) : σ.blk b < w.heap.size := by
  obtain ⟨_, rest, hr, _⟩ := h.blk b x hb
  exact (Array.getElem?_eq_some_iff.1 hr).1

/-- A new block. -/
def Sg.snoc (σ : Sg) (n k c : Nat) : Sg := ⟨fun b => if b = n then k else σ.blk b, fun b => if b = n then c else σ.cap b⟩
theorem Sg.snoc_agree (σ : Sg) (n k c : Nat) : σ.agree n (σ.snoc n k c) := fun b hb =>
  ⟨if_neg (by omega), if_neg (by omega)⟩
theorem Sg.snoc_blk (σ : Sg) (n k c : Nat) : (σ.snoc n k c).blk n = k := if_pos rfl
theorem Sg.snoc_cap (σ : Sg) (n k c : Nat) : (σ.snoc n k c).cap n = c := if_pos rfl

theorem getElem?_snoc {α : Type} (l : List α) (x : α) (b : Nat) : (l ++ [x])[b]? = if b = l.length then some x else l[b]? := by
  rw [List.getElem?_append]
  split
  · rw [if_neg (by omega)]
  · split
    · rename_i h; subst h; simp
    · rw [List.getElem?_eq_none (by simp; omega), List.getElem?_eq_none (by omega)]

theorem Post.allocO {P : Program} {ρ : Env} {σ : Sg} {H : Hp} {w : World} (h : HRel P ρ σ H w) (cs : List SV) (rest : List Value) (t : TypeId) (o : Bool) (cap : Nat) (hc : insideL H.length cs = true)
    (ho : o = false → rest = []) (ho' : o = true → cs.length + rest.length = cap * P.cellsOf t) :
    Post P ρ σ (σ.snoc H.length w.heap.size cap) H (H ++ [some ⟨cs, t, false, o⟩]) [] w { w with heap := w.heap.push (.cells (denL ρ σ cs ++ rest).toArray t (0, 0)) } := by
  have ha := σ.snoc_agree H.length w.heap.size cap
  refine ⟨ha, by simp, ⟨fun b x hb => ?_, fun b b' x x' hb hb' he => ?_⟩, fun b h1 h2 => .inl ?_, rfl, rfl, rfl, by simp, fun k hk _ => ?_, fun b hb _ => ?_⟩
  · rw [getElem?_snoc] at hb
    split at hb
    · rename_i e
      simp only [Option.some.injEq] at hb; subst hb; subst e
      refine ⟨insideL_mono (by simp) _ hc, rest, ?_, ho, ?_⟩
      · rw [Sg.snoc_blk, denL_agree ha _ hc]; simp
      · rw [Sg.snoc_cap]; exact ho'
    · have hlt : b < H.length := by
        rcases Nat.lt_or_ge b H.length with h1 | h1
        · exact h1
        · rw [List.getElem?_eq_none h1] at hb; cases hb
      obtain ⟨hi, rest, hr, h1, h2⟩ := h.blk b x hb
      have hl := h.lt hb
      refine ⟨insideL_mono (by simp) _ hi, rest, ?_, h1, ?_⟩
      · rw [(ha b hlt).1, denL_agree ha _ hi, Array.getElem?_push, if_neg (by omega)]; exact hr
      · rw [(ha b hlt).2]; exact h2
  · rw [getElem?_snoc] at hb hb'
    simp only [Sg.snoc] at he
    split at hb <;> split at hb' <;> rename_i e1 e2
    · omega
    · simp only [e1, e2, if_true, if_false] at he
      have := h.lt hb'; omega
    · simp only [e1, e2, if_true, if_false] at he
      have := h.lt hb; omega
    · simp only [e1, e2, if_false] at he
      exact h.inj b b' x x' hb hb' he
  · simp at h2
    simp [Sg.snoc, show b = H.length by omega]
  · simp only [Array.getElem?_push]; rw [if_neg (by omega)]
  · rw [getElem?_snoc, if_neg (by omega)]

theorem Post.alloc {P : Program} {ρ : Env} {σ : Sg} {H : Hp} {w : World} (h : HRel P ρ σ H w) (cs : List SV) (t : TypeId) (hc : insideL H.length cs = true) :
    Post P ρ σ (σ.snoc H.length w.heap.size 0) H (H ++ [some ⟨cs, t, false, false⟩]) [] w { w with heap := w.heap.push (.cells (denL ρ σ cs).toArray t (0, 0)) } := by
  have := Post.allocO h cs [] t false 0 hc (fun _ => rfl) (fun h => by cases h)
  simpa using this

/-- A row with some of its cells replaced. -/
def setL {α : Type} (l : List α) (n : Nat) (v : List α) : List α := l.take n ++ v ++ l.drop (n + v.length)
theorem setL_length {α : Type} (l : List α) (n : Nat) (v : List α) (h : n + v.length ≤ l.length) : (setL l n v).length = l.length := by
  simp [setL]; omega
theorem setL_nil {α : Type} (l : List α) (n : Nat) : setL l n [] = l := by simp [setL]
theorem setL_cons {α : Type} (l : List α) (n : Nat) (x : α) (v : List α) (h : n < l.length) : setL (l.set n x) (n + 1) v = setL l n (x :: v) := by
  simp only [setL]
  rw [List.set_eq_take_append_cons_drop, if_pos h]
  have e : (l.take n).length = n := by simp; omega
  rw [List.take_append, List.drop_append, e]
  simp [List.take_of_length_le, List.drop_eq_nil_of_le, show n + 1 - n = 1 by omega, show n + 1 + v.length - n = v.length + 1 by omega, Nat.add_assoc, Nat.add_comm 1]
  rw [List.take_take, Nat.min_eq_right (by omega)]
  simp [show n + (v.length + 1) = n + (v.length + 1) by rfl]
  omega
theorem setL_mem {α : Type} {l v : List α} {n : Nat} {x : α} (h : x ∈ setL l n v) : x ∈ l ∨ x ∈ v := by
  simp only [setL, List.mem_append] at h
  rcases h with (h | h) | h
  · exact .inl (List.mem_of_mem_take h)
  · exact .inr h
  · exact .inl (List.mem_of_mem_drop h)
theorem setL_append {α : Type} (l r v : List α) (n : Nat) (h : n + v.length ≤ l.length) : setL (l ++ r) n v = setL l n v ++ r := by
  simp only [setL]
  rw [List.take_append_of_le_length (by omega), List.drop_append_of_le_length h]
  simp
theorem setL_map {α β : Type} (f : α → β) (l v : List α) (n : Nat) : (setL l n v).map f = setL (l.map f) n (v.map f) := by
  simp [setL, List.map_take, List.map_drop]

/-- One block of the world is another one now. -/
structure Upd (w w' : World) (k : Nat) (o : Obj) : Prop where
  at_ : w'.heap[k]? = some o
  other : ∀ j, j ≠ k → w'.heap[j]? = w.heap[j]?
  size : w'.heap.size = w.heap.size
  os : w'.os = w.os
  tape : w'.tape = w.tape
  out : w'.output = w.output

theorem addr_add (k off i : Nat) : (⟨k, off, none⟩ : Addr).add i = ⟨k, off + i, none⟩ := by
  unfold Addr.add; split
  · subst_vars; rfl
  · rfl

/-- A value of one cell, of the model. -/
def cellV : Value → Bool
  | .agg _ => false
  | .tuple _ => false
  | _ => true
theorem SV.isCell_den {ρ : Env} {σ : Sg} {v : SV} (h : v.isCell = true) : cellV (v.den ρ σ) = true := by
  cases v <;> simp_all [SV.den, cellV, SV.isCell]

theorem run_store_cell {P : Program} {w : World} {k off : Nat} {L : List Value} {t : TypeId} {v : Value} (hv : cellV v = true) (hk : w.heap[k]? = some (.cells L.toArray t (0, 0))) (ho : off < L.length) :
    (store ⟨k, off, none⟩ v).run P w = .ok () (w.setCell ⟨k, off, none⟩ v) ∧ Upd w (w.setCell ⟨k, off, none⟩ v) k (.cells (L.set off v).toArray t (0, 0)) := by
  have hc : w.cell? ⟨k, off, none⟩ = some L[off] := by simp [World.cell?, hk, ho]
  have hf : w.frozen? ⟨k, off, none⟩ = false := by simp [World.frozen?, hk]
  refine ⟨?_, ?_, ?_, by simp [World.setCell], rfl, rfl, rfl⟩
  · unfold Go.store
    cases v <;> simp_all [Sem.run, cellV]
  · simp [World.setCell, Array.getElem?_modify, hk]
  · intro j hj
    simp only [World.setCell, Array.getElem?_modify]
    rw [if_neg (by simpa using Ne.symm hj)]

theorem run_storeCells {P : Program} {t : TypeId} {k off : Nat} : ∀ (vs : List Value) (i : Nat) (L : List Value) (w : World), (∀ v ∈ vs, cellV v = true) → w.heap[k]? = some (.cells L.toArray t (0, 0)) → off + i + vs.length ≤ L.length →
    ∃ w', (storeCells ⟨k, off, none⟩ vs i).run P w = .ok () w' ∧ Upd w w' k (.cells (setL L (off + i) vs).toArray t (0, 0))
  | [], i, L, w, _, hk, _ => ⟨w, rfl, by rw [setL_nil]; exact ⟨hk, fun _ _ => rfl, rfl, rfl, rfl, rfl⟩⟩
  | v :: vs, i, L, w, hv, hk, hl => by
    simp only [List.length_cons] at hl
    obtain ⟨hr, hu⟩ := run_store_cell (P := P) (hv v (by simp)) hk (show off + i < L.length by omega)
    obtain ⟨w', hr', hu'⟩ := run_storeCells (P := P) (t := t) (k := k) (off := off) vs (i + 1) (L.set (off + i) v) _ (fun x hx => hv x (by simp [hx])) hu.at_ (by simp; omega)
    refine ⟨w', ?_, ?_, fun j hj => (hu'.other j hj).trans (hu.other j hj), hu'.size.trans hu.size, hu'.os.trans hu.os, hu'.tape.trans hu.tape, hu'.out.trans hu.out⟩
    · simp only [storeCells, Sem.run_bind, addr_add, hr, Result.andThen_ok, hr']
    · rw [hu'.at_, ← Nat.add_assoc, setL_cons _ _ _ _ (by omega)]

/-- A store into a block. -/
theorem Post.put {P : Program} {ρ : Env} {σ : Sg} {H : Hp} {w w' : World} (h : HRel P ρ σ H w) {b : Nat} {x : Blk} (hb : H[b]? = some (some x)) {off : Nat} {vs : List SV} (hv : insideL H.length vs = true)
    (ho : off + vs.length ≤ x.cells.length) {rest : List Value} (hr : w.heap[σ.blk b]? = some (.cells (denL ρ σ x.cells ++ rest).toArray x.elem (0, 0)))
    (hu : Upd w w' (σ.blk b) (.cells (setL (denL ρ σ x.cells ++ rest) off (denL ρ σ vs)).toArray x.elem (0, 0))) :
    Post P ρ σ σ H (H.set b (some { x with cells := setL x.cells off vs })) [b] w w' := by
  have hlt : b < H.length := (List.getElem?_eq_some_iff.1 hb).1
  obtain ⟨hi, rest', hr', h1, h2⟩ := h.blk b x hb
  have er : rest' = rest := by
    rw [hr] at hr'
    simp only [Option.some.injEq, Obj.cells.injEq, and_true] at hr'
    have := congrArg Array.toList hr'
    simpa using this.symm
  subst er
  have hset : ∀ (c : Nat) (y : Blk), (H.set b (some { x with cells := setL x.cells off vs }))[c]? = some (some y) → (c = b ∧ y = { x with cells := setL x.cells off vs }) ∨ (c ≠ b ∧ H[c]? = some (some y)) := by
    intro c y hc
    by_cases e : c = b
    · subst e
      rw [List.getElem?_set_self hlt] at hc
      simp only [Option.some.injEq] at hc
      exact .inl ⟨rfl, hc.symm⟩
    · rw [List.getElem?_set_ne (Ne.symm e)] at hc
      exact .inr ⟨e, hc⟩
  have hlive : ∀ (c : Nat) (y : Blk), (H.set b (some { x with cells := setL x.cells off vs }))[c]? = some (some y) → ∃ z : Blk, H[c]? = some (some z) := by
    intro c y hc
    rcases hset c y hc with ⟨rfl, _⟩ | ⟨_, hc⟩
    · exact ⟨x, hb⟩
    · exact ⟨y, hc⟩
  refine ⟨fun _ _ => ⟨rfl, rfl⟩, by simp, ⟨fun c y hc => ?_, fun c c' y y' hc hc' he => ?_⟩, fun c h1 h2 => by simp at h2; omega, hu.os, hu.tape, hu.out, by rw [hu.size]; exact Nat.le_refl _, fun k hk hW => ?_, fun c hc hW => ?_⟩
  · rcases hset c y hc with ⟨rfl, rfl⟩ | ⟨hne, hc⟩
    · refine ⟨?_, rest', ?_, h1, ?_⟩
      · rw [List.length_set]
        exact insideL_of fun v hv' => (setL_mem hv').elim (insideL_mem hi) (insideL_mem hv)
      · rw [hu.at_]
        simp only [denL_map, setL_map]
        rw [setL_append _ _ _ _ (by simp; omega)]
      · intro ho'
        simp only at ho' ⊢
        rw [setL_length _ _ _ (by omega)]
        exact h2 ho'
    · obtain ⟨hi', rest2, hr2, h3, h4⟩ := h.blk c y hc
      refine ⟨by rw [List.length_set]; exact hi', rest2, ?_, h3, h4⟩
      rw [hu.other _ (fun e => hne (h.inj c b y x hc hb e))]
      exact hr2
  · obtain ⟨z, hz⟩ := hlive c y hc
    obtain ⟨z', hz'⟩ := hlive c' y' hc'
    exact h.inj c c' z z' hz hz' he
  · exact hu.other k (fun e => hW b (by simp) hlt e.symm)
  · simp only [List.mem_singleton] at hW
    rw [List.getElem?_set_ne (Ne.symm hW)]
/-- What an append leaves, made in place: the old block's name is not used any more. -/
theorem Post.onto {P : Program} {ρ : Env} {σ : Sg} {H : Hp} {w w' : World} (h : HRel P ρ σ H w) {b : Nat} {x : Blk} (hb : H[b]? = some (some x)) {cs : List SV} (hc : insideL H.length cs = true) {rest : List Value}
    (hu : Upd w w' (σ.blk b) (.cells (denL ρ σ (x.cells ++ cs) ++ rest).toArray x.elem (0, 0))) (ho : (x.cells ++ cs).length + rest.length = σ.cap b * P.cellsOf x.elem) :
    Post P ρ σ (σ.snoc H.length (σ.blk b) (σ.cap b)) H (H.set b none ++ [some ⟨x.cells ++ cs, x.elem, false, true⟩]) [b] w w' := by
  have hlt : b < H.length := (List.getElem?_eq_some_iff.1 hb).1
  have ha := σ.snoc_agree H.length (σ.blk b) (σ.cap b)
  have hin := (h.blk b x hb).1
  have hin' : insideL H.length (x.cells ++ cs) = true := insideL_of fun v hv => (List.mem_append.1 hv).elim (insideL_mem hin) (insideL_mem hc)
  have hold : ∀ (c : Nat) (y : Blk), c ≠ H.length → (H.set b none ++ [some ⟨x.cells ++ cs, x.elem, false, true⟩])[c]? = some (some y) → c ≠ b ∧ H[c]? = some (some y) := by
    intro c y hne hc'
    rw [getElem?_snoc, if_neg (by simpa using hne)] at hc'
    by_cases e : c = b
    · subst e; rw [List.getElem?_set_self hlt] at hc'; cases hc'
    · rw [List.getElem?_set_ne (Ne.symm e)] at hc'; exact ⟨e, hc'⟩
  have hnew : ∀ (y : Blk), (H.set b none ++ [some ⟨x.cells ++ cs, x.elem, false, true⟩])[H.length]? = some (some y) → y = ⟨x.cells ++ cs, x.elem, false, true⟩ := by
    intro y hc'
    rw [getElem?_snoc, if_pos (by simp)] at hc'
    simpa using hc'.symm
  refine ⟨ha, by simp, ⟨fun c y hcy => ?_, fun c c' y y' hcy hcy' he => ?_⟩, fun c h1 h2 => .inr ⟨b, by simp, hlt, ?_⟩, hu.os, hu.tape, hu.out, by rw [hu.size]; exact Nat.le_refl _, fun k hk hW => ?_, fun c hcl hW => ?_⟩
  · by_cases e : c = H.length
    · subst e
      obtain rfl := hnew y hcy
      refine ⟨insideL_mono (by simp) _ hin', rest, ?_, (fun h => by cases h), fun _ => ?_⟩
      · rw [Sg.snoc_blk, denL_agree ha _ hin', hu.at_]
      · rw [Sg.snoc_cap]; exact ho
    · obtain ⟨hne, hH⟩ := hold c y e hcy
      obtain ⟨hi, rest2, hr2, h1, h2⟩ := h.blk c y hH
      have hlc : c < H.length := (List.getElem?_eq_some_iff.1 hH).1
      refine ⟨insideL_mono (by simp) _ hi, rest2, ?_, h1, ?_⟩
      · rw [(ha c hlc).1, denL_agree ha _ hi, hu.other _ (fun e => hne (h.inj c b y x hH hb e))]; exact hr2
      · rw [(ha c hlc).2]; exact h2
  · have key : ∀ (c c' : Nat) (y y' : Blk), c = H.length → c' ≠ H.length → (H.set b none ++ [some ⟨x.cells ++ cs, x.elem, false, true⟩])[c']? = some (some y') → (σ.snoc H.length (σ.blk b) (σ.cap b)).blk c ≠ (σ.snoc H.length (σ.blk b) (σ.cap b)).blk c' := by
      intro c c' y y' e e' hc'
      obtain ⟨hne, hH⟩ := hold c' y' e' hc'
      have hlc : c' < H.length := (List.getElem?_eq_some_iff.1 hH).1
      rw [e, Sg.snoc_blk, (ha c' hlc).1]
      exact fun e2 => hne (h.inj c' b y' x hH hb e2.symm)
    by_cases e : c = H.length <;> by_cases e' : c' = H.length
    · rw [e, e']
    · exact absurd he (key c c' y y' e e' hcy')
    · exact absurd he.symm (key c' c y' y e' e hcy)
    · obtain ⟨_, h1⟩ := hold c y e hcy
      obtain ⟨_, h2⟩ := hold c' y' e' hcy'
      rw [(ha c (List.getElem?_eq_some_iff.1 h1).1).1, (ha c' (List.getElem?_eq_some_iff.1 h2).1).1] at he
      exact h.inj c c' y y' h1 h2 he
  · simp at h2
    rw [show c = H.length by omega, Sg.snoc_blk]
  · exact hu.other k (fun e => hW b (by simp) hlt e.symm)
  · simp only [List.mem_singleton] at hW
    rw [getElem?_snoc, if_neg (by simp; omega), List.getElem?_set_ne (Ne.symm hW)]

/-- A block's name is given up. -/
theorem Post.drop {P : Program} {ρ : Env} {σ : Sg} {H : Hp} {w : World} (h : HRel P ρ σ H w) {b : Nat} {x : Blk} (hb : H[b]? = some (some x)) : Post P ρ σ σ H (H.set b none) [b] w w := by
  have hlt : b < H.length := (List.getElem?_eq_some_iff.1 hb).1
  have hold : ∀ (c : Nat) (y : Blk), (H.set b none)[c]? = some (some y) → H[c]? = some (some y) := by
    intro c y hc'
    by_cases e : c = b
    · subst e; rw [List.getElem?_set_self hlt] at hc'; cases hc'
    · rw [List.getElem?_set_ne (Ne.symm e)] at hc'; exact hc'
  refine ⟨fun _ _ => ⟨rfl, rfl⟩, by simp, ⟨fun c y hc => ?_, fun c c' y y' hc hc' he => h.inj c c' y y' (hold _ _ hc) (hold _ _ hc') he⟩, fun c h1 h2 => by simp at h2; omega, rfl, rfl, rfl, Nat.le_refl _, fun _ _ _ => rfl, fun c hc hW => ?_⟩
  · have := h.blk c y (hold c y hc)
    rwa [List.length_set]
  · simp only [List.mem_singleton] at hW
    rw [List.getElem?_set_ne (Ne.symm hW)]
end Go.Proofs.Ytipcoahafdolcaa.Ev
