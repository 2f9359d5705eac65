/- The symbolic machine's builtins. -/
import Derived.Test.YtgdhpgjfebinhaaFvg
namespace Go.Proofs.Ytgdhpgjfebinhaa.Ev
set_option linter.unusedSimpArgs false
open Go Go.RowKit
set_option linter.unusedVariables false
variable {P : Program} {ρ : Env} {Γ : Facts}

abbrev Out := SV × Hp × List Nat
/-- What an operation may leave. -/
def Good (P : Program) (ρ : Env) (σ : Sg) (H : Hp) (r : Out) (w : World) (u : Value) (w' : World) : Prop :=
  ∃ σ', Post P ρ σ σ' H r.2.1 r.2.2 w w' ∧ u = r.1.den ρ σ' ∧ r.1.inside r.2.1.length = true

theorem good_same {σ : Sg} {H : Hp} {w : World} {v : SV} (hr : HRel P ρ σ H w) (hv : v.inside H.length = true) : Good P ρ σ H (v, H, []) w (v.den ρ σ) w := ⟨σ, Post.refl hr, rfl, hv⟩

/-- So many cells from there. -/
def evCells (H : Hp) (a : Addr) (c : Nat) : Option (List SV) := if a.spot = none then do
  let x ← getC H a.block
  if a.off + c ≤ x.cells.length then some ((x.cells.drop a.off).take c) else none
  else none
theorem cells_ok {σ : Sg} {H : Hp} {w : World} (hr : HRel P ρ σ H w) {a : Addr} {c : Nat} {cs : List SV} (h : evCells H a c = some cs) :
    (loadCells (σ.addr a) c).run P w = .ok (denL ρ σ cs).toArray w ∧ insideL H.length cs = true ∧ cs.length = c := by
  unfold evCells at h
  simp only [Option.bind_eq_bind, Option.bind_eq_some_iff, Option.ite_none_right_eq_some, Option.some.injEq] at h
  obtain ⟨hs, x, hx, hle, rfl⟩ := h
  obtain ⟨hin, rest, _, hb, _⟩ := hr.conR hx
  rw [addr_none hs]
  have hlen : (denL ρ σ ((x.cells.drop a.off).take c)).length = c := by simp [denL_length]; omega
  refine ⟨?_, insideL_of fun v hv => insideL_mem hin (List.mem_of_mem_drop (List.mem_of_mem_take hv)), by simp; omega⟩
  have hl := run_loadCells_list (P := P) w ⟨σ.blk a.block, a.off, none⟩ (denL ρ σ ((x.cells.drop a.off).take c)) (fun j v hv => by
    rw [addr_add, cell_of hb]
    rw [denL_map] at hv ⊢
    rw [List.getElem?_append_left]
    · rw [List.map_take, List.getElem?_take] at hv
      split at hv
      · rw [List.map_drop, List.getElem?_drop] at hv; exact hv
      · cases hv
    · rw [List.map_take, List.getElem?_take] at hv
      split at hv
      · simp; omega
      · cases hv)
  rw [hlen] at hl
  exact hl

def evFirst (H : Hp) (x : SV) (c : Nat) : Option (List SV) := match x with
  | .slice none _ _ => if c = 0 then some [] else none
  | .slice (some a) _ _ => evCells H a c
  | .vec b _ => evCells H ⟨b, 0, none⟩ c
  | _ => none
theorem first_ok {σ : Sg} {H : Hp} {w : World} (hr : HRel P ρ σ H w) {x : SV} {n size : Nat} {cs : List SV} (h : evFirst H x (n * size) = some cs) :
    (Builtin.firstCells size n (x.den ρ σ)).run P w = .ok (denL ρ σ cs).toArray w ∧ insideL H.length cs = true ∧ cs.length = n * size := by
  unfold evFirst at h
  split at h
  · split at h
    · rename_i hc; cases h; exact ⟨by simp [SV.den, Builtin.firstCells, denL], rfl, by simp [hc]⟩
    · cases h
  · simp only [SV.den, Option.map_some, Builtin.firstCells]; exact cells_ok hr h
  · have := cells_ok hr h
    rw [addr_none rfl] at this
    simp only [SV.den, Builtin.firstCells]; exact this
  · cases h

def evLen : SV → Option Nat
  | .slice _ n _ => some n
  | .vec _ n => some n
  | .vsl _ _ _ n => some n
  | .str s => some s.size
  | _ => none
theorem lenOf_ok {x : SV} {n : Nat} (h : evLen x = some n) (σ : Sg) : Runs P (Builtin.lenOf (x.den ρ σ)) n := by
  unfold evLen at h
  split at h <;> cases h <;> intro w <;> simp [SV.den, Builtin.lenOf]

theorem growBy_le (n : Nat) : ∀ (r c : Nat), c ≤ 2 * n → Builtin.growBy n r c ≤ 2 * n + 1000
  | 0, c, h => by simp [Builtin.growBy]; omega
  | r + 1, c, h => by
    unfold Builtin.growBy
    split
    · omega
    · rename_i hc
      by_cases h2 : c + (c + 768) / 4 ≤ 2 * n
      · exact growBy_le n r _ h2
      · cases r with
        | zero => simp [Builtin.growBy]; omega
        | succ r => unfold Builtin.growBy; rw [if_pos (by omega)]; omega
theorem nextcap_le {n c : Nat} (h : c < n) : Builtin.nextslicecap n c ≤ 2 * n + 1000 := by
  unfold Builtin.nextslicecap
  split
  · omega
  · split
    · omega
    · exact growBy_le n 4 c (by omega)

def isSliceD : TypeDesc → Bool
  | .slice _ => true
  | _ => false
def appOk (P : Program) (e : TypeId) (i : TypeInfo) (len n : Nat) : Bool :=
  decide ((2 * (len + n) + 1000) * i.bytes ≤ 2 ^ 48) && (decide (len + n ≤ 2 ^ 60) && (match embedZ P e with | some z => decide (z.length = i.size) | none => false))

def evAppV (P : Program) (e : TypeId) (i : TypeInfo) (b len n : Nat) (new : List SV) (H : Hp) : Option Out :=
  match getC H b with
  | some y => if y.opn = true ∧ y.ro = false ∧ y.elem = e ∧ 0 < i.size ∧ y.cells.length = len * i.size ∧ appOk P e i len n = true then some (.vec H.length (len + n), H.set b none ++ [some ⟨y.cells ++ new, e, false, true, none⟩], [b]) else none
  | none => none
def evAppS (P : Program) (e : TypeId) (i : TypeInfo) (base : Option Addr) (len cap n : Nat) (new : List SV) (H : Hp) : Option Out :=
  if len + n ≤ cap then
    match base with
    | none => some (.slice none (len + n) cap, H, [])
    | some a => match getC H a.block with
      | some y => if a.spot = none ∧ y.ro = false ∧ a.off + len * i.size + new.length ≤ y.cells.length then some (.slice (some a) (len + n) cap, H.set a.block (some { y with cells := setL y.cells (a.off + len * i.size) new }), [a.block]) else none
      | none => none
  else match evFirst H (.slice base len cap) (len * i.size) with
    | some old => if appOk P e i len n = true then some (.vec H.length (len + n), H ++ [some ⟨old ++ new, e, false, true, none⟩], []) else none
    | none => none
def evAppE (P : Program) (e : TypeId) (s x : SV) (H : Hp) : Option Out := do
  let i ← P.info? e
  let n ← evLen x
  let new ← evFirst H x (n * i.size)
  if new.all SV.isCell = true then (match s with
    | .vec b len => evAppV P e i b len n new H
    | .slice base len cap => evAppS P e i base len cap n new H
    | _ => none) else none
def evAppend (P : Program) (ts : Array TypeId) (args : List SV) (H : Hp) : Option Out := do
  let t ← ts[0]?
  let t1 ← ts[1]?
  let d ← P.underlying t
  let d1 ← P.underlying t1
  if isSliceD d1 = true then (match d, args with
    | .slice e, [s, x] => evAppE P e s x H
    | _, _ => none) else none

theorem appOk_ok {e : TypeId} {i : TypeInfo} {len n : Nat} (h : appOk P e i len n = true) : (2 * (len + n) + 1000) * i.bytes ≤ 2 ^ 48 ∧ len + n ≤ 2 ^ 60 ∧ ∃ z : Value, Runs P (zeroValue e) z ∧ z.cells.size = i.size := by
  unfold appOk at h
  simp only [Bool.and_eq_true, decide_eq_true_eq] at h
  obtain ⟨h1, h2, h3⟩ := h
  split at h3
  · rename_i z hz
    obtain ⟨v, hv, hc, _⟩ := embedZ_ok (ρ := ⟨fun _ => 0, fun _ => false, fun _ => .empty, fun _ => .nilFunc, fun _ _ => 0⟩) hz σ0
    exact ⟨h1, h2, v, hv, by rw [hc]; simp [denL_length]; exact of_decide_eq_true h3⟩
  · cases h3

/-- The part of an append that makes a new array. -/
theorem append_grow {σ : Sg} {H : Hp} {w : World} (hr : HRel P ρ σ H w) {ts : Array TypeId} {t t1 e e1 : TypeId} {i : TypeInfo} {s x : SV} {len cap n : Nat} {base : Option Addr} {old new : List SV} {rt : TypeId}
    (ht : ts[0]? = some t) (ht1 : ts[1]? = some t1) (hd : P.underlying t = some (.slice e)) (hd1 : P.underlying t1 = some (.slice e1)) (hi : P.info? e = some i)
    (hs : s.den ρ σ = .slice base len cap) (hn : evLen x = some n) (hnew : evFirst H x (n * i.size) = some new) (hold : evFirst H s (len * i.size) = some old) (hok : appOk P e i len n = true) (hcap : cap < len + n) :
    ∃ (c : Nat) (rest : List Value), (Builtin.append_ ts rt #[s.den ρ σ, x.den ρ σ]).run P w = .ok (.slice (some ⟨w.heap.size, 0, none⟩) (len + n) c) { w.drew with heap := w.heap.push (.cells (denL ρ σ (old ++ new) ++ rest).toArray e (0, 0)) } ∧
      (old ++ new).length + rest.length = c * P.cellsOf e := by
  obtain ⟨hb, hl, z, hz, hzs⟩ := appOk_ok hok
  obtain ⟨hfo, _, hlo⟩ := first_ok (P := P) hr.drew hold
  obtain ⟨hfn, _, hln⟩ := first_ok (P := P) hr.drew hnew
  refine ⟨len + n + w.tape w.drawn (.appendCap (len + n) cap e) % (2 ^ 63 - (len + n)), (Builtin.zeroCells z.cells (w.tape w.drawn (.appendCap (len + n) cap e) % (2 ^ 63 - (len + n)))).toList, ?_, ?_⟩
  · have hcap2 : Builtin.nextslicecap (len + n) cap * i.bytes ≤ 2 ^ 48 := Nat.le_trans (Nat.mul_le_mul_right _ (nextcap_le hcap)) hb
    have g1 : ¬ (len + n ≤ cap) := by omega
    have g2 : ¬ (281474976710656 < Builtin.nextslicecap (len + n) cap * i.bytes) := by omega
    have hlx := lenOf_ok (P := P) (ρ := ρ) hn σ w
    have g3 : ¬ (9223372036854775807 < ((len : Int) + (n : Int))) := by omega
    have hq : (Question.appendCap (len + n) cap e).forced = false := rfl
    rw [hs] at hfo ⊢
    simp [Builtin.append_, ht, ht1, run_underlying hd, run_underlying hd1, sizeOf, typeInfo, hi, hlx, g1, g2, g3, hq, Question.cut, hfo, hfn]
    rw [hz w.drew]
    simp [newRow, newObj, Sem.run, denL_append]
    have ez : ∀ (a b : List Value) (Z : Array Value), a.toArray ++ (b.toArray ++ Z) = (a ++ (b ++ Z.toList)).toArray := fun a b Z => by apply Array.ext'; simp
    rw [ez]; rfl
  · simp [hlo, hln, Builtin.zeroCells, Program.cellsOf, hi, hzs, Nat.add_mul]
/-- The part of an append that has room. -/
theorem append_room {σ : Sg} {H : Hp} {w : World} (hr : HRel P ρ σ H w) {ts : Array TypeId} {t t1 e e1 : TypeId} {i : TypeInfo} {s x : SV} {len cap n k off : Nat} {new : List SV} {rt : TypeId} {L : List Value} {te : TypeId}
    (ht : ts[0]? = some t) (ht1 : ts[1]? = some t1) (hd : P.underlying t = some (.slice e)) (hd1 : P.underlying t1 = some (.slice e1)) (hi : P.info? e = some i)
    (hs : s.den ρ σ = .slice (some ⟨k, off, none⟩) len cap) (hn : evLen x = some n) (hnew : evFirst H x (n * i.size) = some new) (hall : new.all SV.isCell = true) (hcap : len + n ≤ cap)
    (hk : w.heap[k]? = some (.cells L.toArray te (0, 0))) (hL : off + len * i.size + new.length ≤ L.length) :
    ∃ w', (Builtin.append_ ts rt #[s.den ρ σ, x.den ρ σ]).run P w = .ok (.slice (some ⟨k, off, none⟩) (len + n) cap) w' ∧ Upd w w' k (.cells (setL L (off + len * i.size) (denL ρ σ new)).toArray te (0, 0)) := by
  obtain ⟨hfn, _, hln⟩ := first_ok (P := P) hr hnew
  have hlx := lenOf_ok (P := P) (ρ := ρ) hn σ w
  obtain ⟨w', hrun, hu⟩ := run_storeCells (P := P) (t := te) (k := k) (off := off + len * i.size) (denL ρ σ new) 0 L w (fun u hu => by
    rw [denL_map] at hu
    obtain ⟨y, hy, rfl⟩ := List.mem_map.1 hu
    exact SV.isCell_den (List.all_eq_true.1 hall y hy)) hk (by simp [denL_length]; omega)
  refine ⟨w', ?_, by simpa using hu⟩
  rw [hs]
  simp [Builtin.append_, ht, ht1, run_underlying hd, run_underlying hd1, sizeOf, typeInfo, hi, hlx, hcap, hfn, addr_add, hrun]

theorem append_none {σ : Sg} {H : Hp} {w : World} (hr : HRel P ρ σ H w) {ts : Array TypeId} {t t1 e e1 : TypeId} {i : TypeInfo} {s x : SV} {len cap n : Nat} {new : List SV} {rt : TypeId}
    (ht : ts[0]? = some t) (ht1 : ts[1]? = some t1) (hd : P.underlying t = some (.slice e)) (hd1 : P.underlying t1 = some (.slice e1)) (hi : P.info? e = some i)
    (hs : s.den ρ σ = .slice none len cap) (hn : evLen x = some n) (hnew : evFirst H x (n * i.size) = some new) (hcap : len + n ≤ cap) :
    (Builtin.append_ ts rt #[s.den ρ σ, x.den ρ σ]).run P w = .ok (.slice none (len + n) cap) w := by
  obtain ⟨hfn, _, hln⟩ := first_ok (P := P) hr hnew
  have hlx := lenOf_ok (P := P) (ρ := ρ) hn σ w
  rw [hs]
  simp [Builtin.append_, ht, ht1, run_underlying hd, run_underlying hd1, sizeOf, typeInfo, hi, hlx, hcap, hfn]

theorem evAppend_ok {σ : Sg} {H : Hp} {w : World} (hr : HRel P ρ σ H w) {ts : Array TypeId} {rt : TypeId} {args : List SV} {r : Out} (h : evAppend P ts args H = some r) (hin : insideL H.length args = true) :
    ∃ u w', (Builtin.append_ ts rt (denL ρ σ args).toArray).run P w = .ok u w' ∧ Good P ρ σ H r w u w' := by
  unfold evAppend at h
  simp only [Option.bind_eq_bind, Option.bind_eq_some_iff, Option.ite_none_right_eq_some] at h
  obtain ⟨t, ht, t1, ht1, d, hd, d1, hd1, hs1, h⟩ := h
  obtain ⟨e1, rfl⟩ : ∃ e1, d1 = .slice e1 := by cases d1 <;> simp [isSliceD] at hs1; exact ⟨_, rfl⟩
  split at h
  · rename_i e s x
    unfold evAppE at h
    simp only [Option.bind_eq_bind, Option.bind_eq_some_iff, Option.ite_none_right_eq_some] at h
    obtain ⟨i, hi, n, hn, new, hnew, hall, h⟩ := h
    obtain ⟨_, hnin, hnl⟩ := first_ok (P := P) hr hnew
    simp only [insideL, Bool.and_eq_true, and_true] at hin
    simp only [denL]
    split at h
    · rename_i b len
      unfold evAppV at h
      split at h
      · rename_i y hy
        simp only [Option.ite_none_right_eq_some, Option.some.injEq] at h
        obtain ⟨⟨ho, hro, rfl, hsz, hyl, hok⟩, rfl⟩ := h
        have hy' := getC_some hy
        obtain ⟨hyin, rest, hrow, _, hopn⟩ := hr.con hy hro
        have hopn := hopn ho
        have hcs : P.cellsOf y.elem = i.size := by simp [Program.cellsOf, hi]
        rw [hcs] at hopn
        have hlt : b < H.length := (List.getElem?_eq_some_iff.1 hy'.1).1
        by_cases hcap : len + n ≤ σ.cap b
        · have hlen : (denL ρ σ y.cells).length = len * i.size := by rw [denL_length, hyl]
          have hmul : (len + n) * i.size ≤ σ.cap b * i.size := Nat.mul_le_mul_right _ hcap
          rw [Nat.add_mul] at hmul
          obtain ⟨w', hrun, hu⟩ := append_room (rt := rt) hr ht ht1 hd hd1 hi (s := .vec b len) rfl hn hnew hall hcap hrow (by simp [denL_length]; omega)
          refine ⟨_, w', hrun, σ.snoc H.length (σ.blk b) (σ.cap b), ?_, ?_, ?_⟩
          · have e : setL (denL ρ σ y.cells ++ rest) (0 + len * i.size) (denL ρ σ new) = denL ρ σ (y.cells ++ new) ++ rest.drop (n * i.size) := by
              simp only [setL, Nat.zero_add]
              rw [List.take_append_of_le_length (by omega), List.take_of_length_le (by omega), List.drop_append, List.drop_eq_nil_of_le (by omega), denL_append]
              simp [hlen, denL_length, hnl]
            rw [e] at hu
            refine Post.onto hr hy'.1 hy'.2.1 hy'.2.2 hnin hu ?_
            simp [hyl, hnl, hcs]; omega
          · simp [SV.den, Sg.snoc_blk, Sg.snoc_cap]
          · simp [SV.inside]
        · have hold : evFirst H (.vec b len) (len * i.size) = some y.cells := by
            simp [evFirst, evCells, hy, hyl, List.take_of_length_le]
          obtain ⟨c, rest', hrun, hce⟩ := append_grow (rt := rt) hr ht ht1 hd hd1 hi (s := .vec b len) rfl hn hnew hold hok (by omega)
          have hp1 := Post.drop hr hy'.1
          have hp2 := Post.allocO (w := w.drew) hp1.rel.drew (y.cells ++ new) rest' y.elem true c (by
            rw [List.length_set]
            exact insideL_of fun v hv => (List.mem_append.1 hv).elim (insideL_mem hyin) (insideL_mem hnin)) (fun h => by cases h) (fun _ => hce)
          have hp := hp1.trans hp2.drew
          simp only [List.length_set, List.append_nil] at hp
          refine ⟨_, _, hrun, _, hp, ?_, by simp [SV.inside]⟩
          simp [SV.den, Sg.snoc_blk, Sg.snoc_cap]
      · cases h
    · rename_i base len cap
      unfold evAppS at h
      split at h
      · rename_i hcap
        split at h
        · cases h
          exact ⟨_, w, append_none (rt := rt) hr ht ht1 hd hd1 hi (s := .slice none len cap) rfl hn hnew hcap, σ, Post.refl hr, rfl, rfl⟩
        · rename_i a
          split at h
          · rename_i y hy
            simp only [Option.ite_none_right_eq_some, Option.some.injEq] at h
            obtain ⟨⟨hs, hro, hle⟩, rfl⟩ := h
            have hy' := getC_some hy
            obtain ⟨hyin, rest, hrow, _, _⟩ := hr.con hy hro
            have hden : (SV.slice (some a) len cap).den ρ σ = .slice (some ⟨σ.blk a.block, a.off, none⟩) len cap := by
              simp [SV.den, addr_none hs]
            obtain ⟨w', hrun, hu⟩ := append_room (rt := rt) hr ht ht1 hd hd1 hi hden hn hnew hall hcap hrow (by simp [denL_length]; omega)
            refine ⟨_, w', hrun, σ, Post.put hr hy'.1 hy'.2.1 hy'.2.2 hnin hle hrow hu, ?_, ?_⟩
            · simp [SV.den, addr_none hs]
            · have := of_decide_eq_true hin.1
              simp only [SV.inside, List.length_set]; exact decide_eq_true this
          · cases h
      · rename_i hcap
        split at h
        · rename_i old hold
          simp only [Option.ite_none_right_eq_some, Option.some.injEq] at h
          obtain ⟨hok, rfl⟩ := h
          obtain ⟨_, hoin, _⟩ := first_ok (P := P) hr hold
          obtain ⟨c, rest', hrun, hce⟩ := append_grow (rt := rt) hr ht ht1 hd hd1 hi (s := .slice base len cap) rfl hn hnew hold hok (by omega)
          have hp2 := Post.allocO (w := w.drew) hr.drew (old ++ new) rest' e true c (insideL_of fun v hv => (List.mem_append.1 hv).elim (insideL_mem hoin) (insideL_mem hnin)) (fun h => by cases h) (fun _ => hce)
          refine ⟨_, _, hrun, _, hp2.drew, ?_, by simp [SV.inside]⟩
          simp [SV.den, Sg.snoc_blk, Sg.snoc_cap]
        · cases h
    · cases h
  · cases h

/-- All cells of a row. -/
def rowsV (ρ : Env) (A : Abs) (k : Nat) : List Value := (List.range k).flatMap fun j : Nat => cellsV ρ (j : Int) A.sh A.cols
theorem rowsV_len {A : Abs} (hf : fitC A.sh A.cols = true) : ∀ k : Nat, (rowsV ρ A k).length = k * A.sh.length
  | 0 => by simp [rowsV]
  | k + 1 => by
    have := rowsV_len hf k
    unfold rowsV at this ⊢
    rw [List.range_succ, List.flatMap_append, List.length_append, this]
    simp [fitC_len ρ _ _ _ hf, Nat.add_mul]
theorem rowsV_get {A : Abs} (hf : fitC A.sh A.cols = true) : ∀ (k j i : Nat), j < k → i < A.sh.length → (rowsV ρ A k)[j * A.sh.length + i]? = (cellsV ρ j A.sh A.cols)[i]?
  | 0, j, i, h, _ => by omega
  | k + 1, j, i, h, hi => by
    have hl := rowsV_len (ρ := ρ) hf k
    have e : rowsV ρ A (k + 1) = rowsV ρ A k ++ cellsV ρ k A.sh A.cols := by
      unfold rowsV; rw [List.range_succ, List.flatMap_append]; simp
    rw [e]
    by_cases hj : j < k
    · have : (j + 1) * A.sh.length ≤ k * A.sh.length := Nat.mul_le_mul_right _ hj
      rw [Nat.add_mul] at this
      rw [List.getElem?_append_left (by omega)]
      exact rowsV_get hf k j i hj hi
    · have : j = k := by omega
      subst this
      rw [List.getElem?_append_right (by omega), hl]
      congr 1; omega
theorem rowsV_cell {A : Abs} (hf : fitC A.sh A.cols = true) {k q : Nat} {v : Value} (h : (rowsV ρ A k)[q]? = some v) : ∃ j i, j < k ∧ i < A.sh.length ∧ q = j * A.sh.length + i ∧ (cellsV ρ j A.sh A.cols)[i]? = some v := by
  have hq := (List.getElem?_eq_some_iff.1 h).1
  rw [rowsV_len hf] at hq
  have h0 : 0 < A.sh.length := by
    rcases Nat.eq_zero_or_pos A.sh.length with h0 | h0
    · rw [h0] at hq; omega
    · exact h0
  have hd : q / A.sh.length < k := Nat.div_lt_of_lt_mul (by rw [Nat.mul_comm]; exact hq)
  have hm := Nat.mod_lt q h0
  have e : q = q / A.sh.length * A.sh.length + q % A.sh.length := by rw [Nat.mul_comm]; exact (Nat.div_add_mod q _).symm
  refine ⟨_, _, hd, hm, e, ?_⟩
  rw [← rowsV_get hf k _ _ hd hm, ← e]; exact h
theorem rowsV_congr {A B : Abs} (hs : A.sh = B.sh) {k : Nat} (h : ∀ j : Nat, j < k → cellsV ρ j A.sh A.cols = cellsV ρ j B.sh B.cols) : rowsV ρ A k = rowsV ρ B k := by
  unfold rowsV
  induction k with
  | zero => rfl
  | succ k ih => rw [List.range_succ, List.flatMap_append, List.flatMap_append, ih fun j hj => h j (by omega)]; simp [h k (by omega)]
theorem cellsV_cell (j : Int) : ∀ (s : List CK) (l : List NE) (v : Value), v ∈ cellsV ρ j s l → cellV v = true
  | [], l, v, h => by simp [cellsV] at h
  | .int k :: s, [], v, h => by simp [cellsV] at h
  | .float k :: s, [], v, h => by simp [cellsV] at h
  | .complex k :: s, [], v, h => by simp [cellsV] at h
  | .complex k :: s, [_], v, h => by simp [cellsV] at h
  | .bool :: s, [], v, h => by simp [cellsV] at h
  | .str :: s, [], v, h => by simp [cellsV] at h
  | .int k :: s, c :: l, v, h => by simp only [cellsV, List.mem_cons] at h; exact h.elim (fun e => e ▸ rfl) (cellsV_cell j s l v)
  | .float k :: s, c :: l, v, h => by simp only [cellsV, List.mem_cons] at h; exact h.elim (fun e => e ▸ rfl) (cellsV_cell j s l v)
  | .complex k :: s, c :: d :: l, v, h => by simp only [cellsV, List.mem_cons] at h; exact h.elim (fun e => e ▸ rfl) (cellsV_cell j s l v)
  | .bool :: s, c :: l, v, h => by simp only [cellsV, List.mem_cons] at h; exact h.elim (fun e => e ▸ rfl) (cellsV_cell j s l v)
  | .str :: s, c :: l, v, h => by simp only [cellsV, List.mem_cons] at h; exact h.elim (fun e => e ▸ rfl) (cellsV_cell j s l v)
theorem rowsV_allcell {A : Abs} {k : Nat} : ∀ v ∈ rowsV ρ A k, cellV v = true := by
  intro v hv
  unfold rowsV at hv
  obtain ⟨j, _, hv⟩ := List.mem_flatMap.1 hv
  exact cellsV_cell _ _ _ v hv
/-- The cells of a slice that is a row. -/
theorem HRel.firstR {σ : Sg} {H : Hp} {w : World} (hr : HRel P ρ σ H w) {b : Nat} {n : NE} {q : Blk × Abs} (h : rowOf H b n = some q) {size : Nat} (hsz : size = q.2.sh.length) :
    (Builtin.firstCells size (n.den ρ).toNat ((SV.asl b n).den ρ σ)).run P w = .ok (rowsV ρ q.2 (n.den ρ).toNat).toArray w := by
  obtain ⟨h1, h2⟩ := rowOf_some h
  have R := hr.row h1
  obtain ⟨nn, hs⟩ := hr.slice h
  rcases hs with ⟨a, hg, hz, he⟩ | ⟨hg, he⟩
  · rw [he, hz]
    cases a with
    | none => simp [Builtin.firstCells, rowsV]
    | some a => simp [Builtin.firstCells, rowsV, loadCells, loadCellsFrom]
  · rw [he]
    simp only [Builtin.firstCells]
    have hl := run_loadCells_list (P := P) w ⟨σ.blk b, σ.off b, none⟩ (rowsV ρ q.2 (n.den ρ).toNat) (fun m v hv => by
      obtain ⟨j, i, hj, hi, rfl, hcv⟩ := rowsV_cell R.fit hv
      have := R.cell (j := j) (by omega) (by rw [h2]; omega) hi
      simp only [Sg.pl, Int.toNat_natCast] at this
      rw [addr_add, ← Nat.add_assoc, this]; exact hcv)
    rw [rowsV_len R.fit, ← hsz] at hl
    exact hl
theorem HRel.lenR {σ : Sg} {H : Hp} {w : World} (hr : HRel P ρ σ H w) {b : Nat} {n : NE} {q : Blk × Abs} (h : rowOf H b n = some q) : Runs P (Builtin.lenOf ((SV.asl b n).den ρ σ)) (n.den ρ).toNat := by
  obtain ⟨nn, hs⟩ := hr.slice h
  intro w
  rcases hs with ⟨a, hg, hz, he⟩ | ⟨hg, he⟩
  · rw [he, hz]; simp [Builtin.lenOf]
  · rw [he]; simp [Builtin.lenOf]

/-- The part of an append that makes a new array, of values. -/
theorem append_growV {w : World} {ts : Array TypeId} {t t1 e e1 : TypeId} {i : TypeInfo} {len cap n : Nat} {base : Option Addr} {xv : Value} {old new : List Value} {rt : TypeId}
    (ht : ts[0]? = some t) (ht1 : ts[1]? = some t1) (hd : P.underlying t = some (.slice e)) (hd1 : P.underlying t1 = some (.slice e1)) (hi : P.info? e = some i)
    (hlx : Runs P (Builtin.lenOf xv) n) (hfo : (Builtin.firstCells i.size len (.slice base len cap)).run P w.drew = .ok old.toArray w.drew) (hfn : (Builtin.firstCells i.size n xv).run P w.drew = .ok new.toArray w.drew)
    (hlo : old.length = len * i.size) (hln : new.length = n * i.size) {m : Nat} (hok : appOk P e i len m = true) (hm : n ≤ m) (hcap : cap < len + n) :
    ∃ (c : Nat) (rest : List Value), (Builtin.append_ ts rt #[.slice base len cap, xv]).run P w = .ok (.slice (some ⟨w.heap.size, 0, none⟩) (len + n) c) { w.drew with heap := w.heap.push (.cells (old ++ new ++ rest).toArray e (0, 0)) } ∧
      (old ++ new).length + rest.length = c * P.cellsOf e ∧ len + n ≤ c := by
  obtain ⟨hb, hl, z, hz, hzs⟩ := appOk_ok hok
  refine ⟨len + n + w.tape w.drawn (.appendCap (len + n) cap e) % (2 ^ 63 - (len + n)), (Builtin.zeroCells z.cells (w.tape w.drawn (.appendCap (len + n) cap e) % (2 ^ 63 - (len + n)))).toList, ?_, ?_, by omega⟩
  · have hb2 : (2 * (len + n) + 1000) * i.bytes ≤ 2 ^ 48 := Nat.le_trans (Nat.mul_le_mul_right _ (by omega)) hb
    have hcap2 : Builtin.nextslicecap (len + n) cap * i.bytes ≤ 2 ^ 48 := Nat.le_trans (Nat.mul_le_mul_right _ (nextcap_le hcap)) hb2
    have g1 : ¬ (len + n ≤ cap) := by omega
    have g2 : ¬ (281474976710656 < Builtin.nextslicecap (len + n) cap * i.bytes) := by omega
    have g3 : ¬ (9223372036854775807 < ((len : Int) + (n : Int))) := by omega
    have hq : (Question.appendCap (len + n) cap e).forced = false := rfl
    simp [Builtin.append_, ht, ht1, run_underlying hd, run_underlying hd1, sizeOf, typeInfo, hi, hlx w, g1, g2, g3, hq, Question.cut, hfo, hfn]
    rw [hz w.drew]
    simp [newRow, newObj, Sem.run]
    have ez : ∀ (a b : List Value) (Z : Array Value), a.toArray ++ (b.toArray ++ Z) = (a ++ (b ++ Z.toList)).toArray := fun a b Z => by apply Array.ext'; simp
    rw [ez]; rfl
  · simp [hlo, hln, Builtin.zeroCells, Program.cellsOf, hi, hzs, Nat.add_mul]
/-- The part of an append that has room, of values. -/
theorem append_roomV {w : World} {ts : Array TypeId} {t t1 e e1 : TypeId} {i : TypeInfo} {len cap n k off : Nat} {xv : Value} {new : List Value} {rt : TypeId} {L : List Value} {te : TypeId}
    (ht : ts[0]? = some t) (ht1 : ts[1]? = some t1) (hd : P.underlying t = some (.slice e)) (hd1 : P.underlying t1 = some (.slice e1)) (hi : P.info? e = some i)
    (hlx : Runs P (Builtin.lenOf xv) n) (hfn : (Builtin.firstCells i.size n xv).run P w = .ok new.toArray w) (hall : ∀ v ∈ new, cellV v = true) (hcap : len + n ≤ cap)
    (hk : w.heap[k]? = some (.cells L.toArray te (0, 0))) (hL : off + len * i.size + new.length ≤ L.length) :
    ∃ w', (Builtin.append_ ts rt #[.slice (some ⟨k, off, none⟩) len cap, xv]).run P w = .ok (.slice (some ⟨k, off, none⟩) (len + n) cap) w' ∧ Upd w w' k (.cells (setL L (off + len * i.size) new).toArray te (0, 0)) := by
  obtain ⟨w', hrun, hu⟩ := run_storeCells (P := P) (t := te) (k := k) (off := off + len * i.size) new 0 L w hall hk (by omega)
  refine ⟨w', ?_, by simpa using hu⟩
  simp [Builtin.append_, ht, ht1, run_underlying hd, run_underlying hd1, sizeOf, typeInfo, hi, hlx w, hcap, hfn, addr_add, hrun]
/-- An append of nothing. -/
theorem append_zeroV {w : World} {ts : Array TypeId} {t t1 e e1 : TypeId} {i : TypeInfo} {len cap : Nat} {base : Option Addr} {xv : Value} {rt : TypeId}
    (ht : ts[0]? = some t) (ht1 : ts[1]? = some t1) (hd : P.underlying t = some (.slice e)) (hd1 : P.underlying t1 = some (.slice e1)) (hi : P.info? e = some i)
    (hlx : Runs P (Builtin.lenOf xv) 0) (hfn : (Builtin.firstCells i.size 0 xv).run P w = .ok #[] w) (hcap : len ≤ cap) :
    (Builtin.append_ ts rt #[.slice base len cap, xv]).run P w = .ok (.slice base len cap) w := by
  cases base <;> simp [Builtin.append_, ht, ht1, run_underlying hd, run_underlying hd1, sizeOf, typeInfo, hi, hlx w, hcap, hfn, storeCells]

def colEq (ρ : Env) (j j' : Int) : List NE → List NE → Prop
  | [], [] => True
  | a :: l, b :: r => a.aden ρ j = b.aden ρ j' ∧ colEq ρ j j' l r
  | _, _ => False
theorem cellsV_congr {j j' : Int} : ∀ (s : List CK) (l r : List NE), colEq ρ j j' l r → cellsV ρ j s l = cellsV ρ j' s r
  | [], l, r, _ => by simp [cellsV]
  | k :: s, [], [], _ => by cases k <;> simp [cellsV]
  | k :: s, [], _ :: _, h => by cases h
  | k :: s, _ :: _, [], h => by cases h
  | .int k :: s, a :: l, b :: r, h => by simp only [cellsV, h.1, cellsV_congr s l r h.2]
  | .float k :: s, a :: l, b :: r, h => by simp only [cellsV, h.1, cellsV_congr s l r h.2]
  | .bool :: s, a :: l, b :: r, h => by simp only [cellsV, h.1, cellsV_congr s l r h.2]
  | .str :: s, a :: l, b :: r, h => by simp only [cellsV, h.1, cellsV_congr s l r h.2]
  | .complex k :: s, [_], [_], _ => by simp [cellsV]
  | .complex k :: s, [_], _ :: _ :: _, h => by cases h.2
  | .complex k :: s, _ :: _ :: _, [_], h => by cases h.2
  | .complex k :: s, a :: a' :: l, b :: b' :: r, h => by simp only [cellsV, h.1, h.2.1, cellsV_congr s l r h.2.2]
theorem fitC_eq : ∀ (s : List CK) (l r : List NE), fitC s l = true → fitC s r = true → l.length = r.length
  | [], [], [], _, _ => rfl
  | [], _ :: _, _, h, _ => by cases h
  | [], [], _ :: _, _, h => by cases h
  | .int k :: s, a :: l, b :: r, h, g => by simp only [fitC] at h g; simp [fitC_eq s l r h g]
  | .float k :: s, a :: l, b :: r, h, g => by simp only [fitC] at h g; simp [fitC_eq s l r h g]
  | .bool :: s, a :: l, b :: r, h, g => by simp only [fitC] at h g; simp [fitC_eq s l r h g]
  | .str :: s, a :: l, b :: r, h, g => by simp only [fitC] at h g; simp [fitC_eq s l r h g]
  | .complex k :: s, a :: a' :: l, b :: b' :: r, h, g => by simp only [fitC] at h g; simp [fitC_eq s l r h g]
  | .int k :: s, [], _, h, _ => by cases h
  | .float k :: s, [], _, h, _ => by cases h
  | .bool :: s, [], _, h, _ => by cases h
  | .str :: s, [], _, h, _ => by cases h
  | .complex k :: s, [], _, h, _ => by cases h
  | .complex k :: s, [_], _, h, _ => by cases h
  | .int k :: s, _ :: _, [], _, h => by cases h
  | .float k :: s, _ :: _, [], _, h => by cases h
  | .bool :: s, _ :: _, [], _, h => by cases h
  | .str :: s, _ :: _, [], _, h => by cases h
  | .complex k :: s, _ :: _ :: _, [], _, h => by cases h
  | .complex k :: s, _ :: _ :: _, [_], _, h => by cases h
/-- It fits by its length alone. -/
theorem fitC_len2 : ∀ (s : List CK) (l r : List NE), fitC s l = true → r.length = l.length → fitC s r = true
  | [], [], [], _, _ => rfl
  | [], _ :: _, _, h, _ => by cases h
  | [], [], _ :: _, _, h => by simp at h
  | .int k :: s, a :: l, b :: r, h, g => by simp only [fitC] at h ⊢; exact fitC_len2 s l r h (by simpa using g)
  | .float k :: s, a :: l, b :: r, h, g => by simp only [fitC] at h ⊢; exact fitC_len2 s l r h (by simpa using g)
  | .bool :: s, a :: l, b :: r, h, g => by simp only [fitC] at h ⊢; exact fitC_len2 s l r h (by simpa using g)
  | .str :: s, a :: l, b :: r, h, g => by simp only [fitC] at h ⊢; exact fitC_len2 s l r h (by simpa using g)
  | .complex k :: s, a :: a' :: l, b :: b' :: r, h, g => by simp only [fitC] at h ⊢; exact fitC_len2 s l r h (by simpa using g)
  | .int k :: s, [], _, h, _ => by cases h
  | .float k :: s, [], _, h, _ => by cases h
  | .bool :: s, [], _, h, _ => by cases h
  | .str :: s, [], _, h, _ => by cases h
  | .complex k :: s, [], _, h, _ => by cases h
  | .complex k :: s, [_], _, h, _ => by cases h
  | .int k :: s, _ :: _, [], _, h => by simp at h
  | .float k :: s, _ :: _, [], _, h => by simp at h
  | .bool :: s, _ :: _, [], _, h => by simp at h
  | .str :: s, _ :: _, [], _, h => by simp at h
  | .complex k :: s, _ :: _ :: _, [], _, h => by simp at h
  | .complex k :: s, _ :: _ :: _, [_], _, h => by simp at h

/-- One row behind another one. -/
def catC (n : NE) (m : NE) (a b : List NE) : List NE := if n = .lit 0 then b else if m = .lit 1 then a.zipWith (fun x y => .aupd x n (mkSel y (.lit 0))) b else a.zipWith (fun x y => .acat x n y) b
theorem zipCol1 {j : Int} {f : NE → NE → NE} : ∀ (a b : List NE), a.length = b.length → (∀ x y, (f x y).aden ρ j = x.aden ρ j) → colEq ρ j j (a.zipWith f b) a
  | [], [], _, _ => trivial
  | x :: a, y :: b, h, hf => ⟨hf x y, zipCol1 a b (by simpa using h) hf⟩
  | [], _ :: _, h, _ => by simp at h
  | _ :: _, [], h, _ => by simp at h
theorem zipCol2 {j j' : Int} {f : NE → NE → NE} : ∀ (a b : List NE), a.length = b.length → (∀ x y, (f x y).aden ρ j = y.aden ρ j') → colEq ρ j j' (a.zipWith f b) b
  | [], [], _, _ => trivial
  | x :: a, y :: b, h, hf => ⟨hf x y, zipCol2 a b (by simpa using h) hf⟩
  | [], _ :: _, h, _ => by simp at h
  | _ :: _, [], h, _ => by simp at h
theorem catC_len {n m : NE} {a b : List NE} (h : a.length = b.length) : (catC n m a b).length = b.length := by
  unfold catC
  split
  · rfl
  · split <;> simp [h]
theorem catC_old {n m : NE} {a b : List NE} (h : a.length = b.length) {j : Int} (h0 : 0 ≤ j) (hj : j < n.den ρ) (s : List CK) : cellsV ρ j s (catC n m a b) = cellsV ρ j s a := by
  unfold catC
  split
  · rename_i e; subst e; simp only [NE.den] at hj; omega
  · split
    · refine cellsV_congr s _ _ (zipCol1 a b h fun x y => ?_)
      simp only [NE.aden]; rw [if_neg (by omega)]
    · refine cellsV_congr s _ _ (zipCol1 a b h fun x y => ?_)
      simp only [NE.aden]; rw [if_pos hj]
theorem catC_new {n m : NE} {a b : List NE} (h : a.length = b.length) {j : Int} (hj : n.den ρ ≤ j) (hm : j < n.den ρ + m.den ρ) (s : List CK) : cellsV ρ j s (catC n m a b) = cellsV ρ (j - n.den ρ) s b := by
  unfold catC
  split
  · rename_i e; subst e; simp only [NE.den, Int.sub_zero]
  · split
    · rename_i e
      subst e
      simp only [NE.den] at hm
      refine cellsV_congr s _ _ (zipCol2 a b h fun x y => ?_)
      have : j = n.den ρ := by omega
      simp only [NE.aden]; rw [if_pos this, mkSel_den, this]; simp [NE.den]
    · refine cellsV_congr s _ _ (zipCol2 a b h fun x y => ?_)
      simp only [NE.aden]; rw [if_neg (by omega)]
def catA (A B : Abs) : Abs := ⟨mkAddI A.n B.n, A.sh, catC A.n B.n A.cols B.cols⟩
theorem catA_rows {A B : Abs} (hs : A.sh = B.sh) (ha : fitC A.sh A.cols = true) (hb : fitC B.sh B.cols = true) (na : 0 ≤ A.n.den ρ) (nb : 0 ≤ B.n.den ρ) :
    rowsV ρ (catA A B) ((A.n.den ρ).toNat + (B.n.den ρ).toNat) = rowsV ρ A (A.n.den ρ).toNat ++ rowsV ρ B (B.n.den ρ).toNat := by
  have hl : A.cols.length = B.cols.length := fitC_eq A.sh _ _ ha (by rw [hs]; exact hb)
  unfold rowsV
  rw [List.range_add, List.flatMap_append]
  congr 1
  · have key : ∀ k : Nat, k ≤ (A.n.den ρ).toNat → (List.range k).flatMap (fun j : Nat => cellsV ρ j (catA A B).sh (catA A B).cols) = (List.range k).flatMap (fun j : Nat => cellsV ρ j A.sh A.cols) := by
      intro k
      induction k with
      | zero => intro _; rfl
      | succ k ih =>
        intro hk
        rw [List.range_succ, List.flatMap_append, List.flatMap_append, ih (by omega)]
        have h3 := catC_old (ρ := ρ) (m := B.n) (n := A.n) hl (j := (k : Int)) (by omega) (by omega) A.sh
        congr 1
        simp only [List.flatMap_cons, List.flatMap_nil, List.append_nil, catA]
        exact h3
    exact key _ (Nat.le_refl _)
  · rw [List.flatMap_map]
    have key : ∀ k : Nat, k ≤ (B.n.den ρ).toNat → (List.range k).flatMap (fun j : Nat => cellsV ρ (((A.n.den ρ).toNat + j : Nat) : Int) (catA A B).sh (catA A B).cols) = (List.range k).flatMap (fun j : Nat => cellsV ρ j B.sh B.cols) := by
      intro k
      induction k with
      | zero => intro _; rfl
      | succ k ih =>
        intro hk
        rw [List.range_succ, List.flatMap_append, List.flatMap_append, ih (by omega)]
        have := catC_new (m := B.n) (n := A.n) (ρ := ρ) hl (j := (((A.n.den ρ).toNat + k : Nat) : Int)) (by omega) (by omega) A.sh
        have e : (((A.n.den ρ).toNat + k : Nat) : Int) - A.n.den ρ = k := by omega
        rw [e] at this
        congr 1
        simp only [List.flatMap_cons, List.flatMap_nil, List.append_nil, catA]
        rw [this, hs]
    exact key _ (Nat.le_refl _)
theorem catA_fit {A B : Abs} (hs : A.sh = B.sh) (ha : fitC A.sh A.cols = true) (hb : fitC B.sh B.cols = true) : fitC (catA A B).sh (catA A B).cols = true := by
  have hl : A.cols.length = B.cols.length := fitC_eq A.sh _ _ ha (by rw [hs]; exact hb)
  exact fitC_len2 A.sh A.cols _ ha (by simp only [catA]; rw [catC_len hl, hl])

/-- The kinds of a type's cells. -/
def ckOf : SV → Option CK
  | .int k _ => some (.int k)
  | .float k _ => some (.float k)
  | .complex k _ _ => some (.complex k)
  | .bool _ => some .bool
  | .str _ => some .str
  | _ => none
def shOf (P : Program) (e : TypeId) : Option (List CK) := (embedZ P e).bind fun l => l.mapM ckOf
def zeroC : List CK → List NE
  | [] => []
  | .complex _ :: s => .acst (.lit 0) :: .acst (.lit 0) :: zeroC s
  | _ :: s => .acst (.lit 0) :: zeroC s
theorem zeroC_fit : ∀ s : List CK, fitC s (zeroC s) = true
  | [] => rfl
  | .int _ :: s => by simp only [zeroC, fitC]; exact zeroC_fit s
  | .float _ :: s => by simp only [zeroC, fitC]; exact zeroC_fit s
  | .complex _ :: s => by simp only [zeroC, fitC]; exact zeroC_fit s
  | .bool :: s => by simp only [zeroC, fitC]; exact zeroC_fit s
  | .str :: s => by simp only [zeroC, fitC]; exact zeroC_fit s
/-- Elements, told one by one, as a row. -/
def rowOfL (Γ : Facts) (sh : List CK) : Nat → Nat → List SV → List NE → Option (List NE)
  | _, 0, _, l => some l
  | j, k + 1, cs, l => match updC Γ (.lit j) 0 (cs.take sh.length) sh l with
    | some l => rowOfL Γ sh (j + 1) k (cs.drop sh.length) l
    | none => none
theorem rowOfL_ok (hΓ : Γ.Holds P ρ) (σ : Sg) {sh : List CK} : ∀ (k j : Nat) (cs : List SV) (l l' : List NE), rowOfL Γ sh j k cs l = some l' → cs.length = k * sh.length → fitC sh l = true →
    fitC sh l' = true ∧ (∀ i : Int, i < j → cellsV ρ i sh l' = cellsV ρ i sh l) ∧ (List.range k).flatMap (fun i : Nat => cellsV ρ ((j + i : Nat) : Int) sh l') = denL ρ σ cs
  | 0, j, cs, l, l', h, hc, hf => by
    simp only [rowOfL] at h
    cases h
    have : cs = [] := List.eq_nil_of_length_eq_zero (by simpa using hc)
    subst this
    exact ⟨hf, fun _ _ => rfl, rfl⟩
  | k + 1, j, cs, l, l', h, hc, hf => by
    rw [Nat.add_mul] at hc
    simp only [rowOfL] at h
    split at h
    · rename_i l1 h1
      have U := updC_ok hΓ σ 0 _ sh l l1 h1 hf
      obtain ⟨g1, g2, g3⟩ := rowOfL_ok hΓ σ k (j + 1) (cs.drop sh.length) l1 l' h (by simp; omega) U.fit
      refine ⟨g1, fun i hi => ?_, ?_⟩
      · rw [g2 i (by omega), U.other i (by simp only [NE.den]; omega)]
      · rw [List.range_succ_eq_map, List.flatMap_cons, List.flatMap_map]
        have e1 : cellsV ρ ((j + 0 : Nat) : Int) sh l' = denL ρ σ (cs.take sh.length) := by
          rw [g2 _ (by omega)]
          have := U.here
          simp only [NE.den] at this
          rw [show ((j + 0 : Nat) : Int) = (j : Int) by omega, this]
          have hl : (cellsV ρ (j : Int) sh l).length = sh.length := fitC_len ρ _ _ _ hf
          have hl2 : (denL ρ σ (cs.take sh.length)).length = sh.length := by rw [denL_length]; simp; omega
          simp only [setL, List.take_zero, List.nil_append, Nat.zero_add]
          rw [List.drop_eq_nil_of_le (by omega), List.append_nil]
        have e2 : (fun i : Nat => cellsV ρ ((j + (i + 1) : Nat) : Int) sh l') = fun i : Nat => cellsV ρ (((j + 1) + i : Nat) : Int) sh l' := by
          funext i; congr 1; omega
        rw [e1]
        simp only [Nat.succ_eq_add_one]
        rw [e2, g3, ← denL_append, List.take_append_drop]
    · cases h
/-- A slice as a row. -/
def absOf (P : Program) (Γ : Facts) (e : TypeId) (size : Nat) (x : SV) (H : Hp) : Option Abs := match x with
  | .asl b n => (rowOf H b n).map fun q => q.2
  | x => match evLen x, shOf P e with
    | some k, some sh => if sh.length = size then (match evFirst H x (k * size) with
      | some cs => (rowOfL Γ sh 0 k cs (zeroC sh)).map fun l => ⟨.lit k, sh, l⟩
      | none => none) else none
    | _, _ => none
theorem absOf_ok (hΓ : Γ.Holds P ρ) {σ : Sg} {H : Hp} {w : World} (hr : HRel P ρ σ H w) {e : TypeId} {size : Nat} {x : SV} {B : Abs} (h : absOf P Γ e size x H = some B) (hsz : size = B.sh.length) :
    0 ≤ B.n.den ρ ∧ fitC B.sh B.cols = true ∧ Runs P (Builtin.lenOf (x.den ρ σ)) (B.n.den ρ).toNat ∧ (Builtin.firstCells size (B.n.den ρ).toNat (x.den ρ σ)).run P w = .ok (rowsV ρ B (B.n.den ρ).toNat).toArray w := by
  unfold absOf at h
  split at h
  · rename_i b n
    obtain ⟨q, hq, rfl⟩ := Option.map_eq_some_iff.1 h
    obtain ⟨h1, h2⟩ := rowOf_some hq
    have R := hr.row h1
    refine ⟨R.nn, R.fit, ?_, ?_⟩
    · rw [h2]; exact hr.lenR hq
    · have := hr.firstR hq hsz
      rw [h2]; exact this
  · split at h
    · rename_i x hx k sh hk hsh
      split at h
      · rename_i hs
        split at h
        · rename_i cs hcs
          obtain ⟨l, hl, rfl⟩ := Option.map_eq_some_iff.1 h
          obtain ⟨hf, _, hln⟩ := first_ok (P := P) hr hcs
          obtain ⟨g1, g2, g3⟩ := rowOfL_ok hΓ σ k 0 cs _ l hl (by rw [hln, hs]) (zeroC_fit sh)
          refine ⟨by simp [NE.den], g1, ?_, ?_⟩
          · have := lenOf_ok (P := P) (ρ := ρ) hk σ
            simpa [NE.den] using this
          · simp only [NE.den, Int.toNat_natCast]
            rw [hf]
            unfold rowsV
            rw [← g3]; simp
        · cases h
      · cases h
    · cases h

def hiN (Γ : Facts) (n : NE) : Option Nat := (iv Γ.dom n).map fun r => r.2.toNat
theorem hiN_ok (hΓ : Γ.Holds P ρ) {n : NE} {m : Nat} (h : hiN Γ n = some m) : (n.den ρ).toNat ≤ m := by
  obtain ⟨r, hr, rfl⟩ := Option.map_eq_some_iff.1 h
  have := (iv_ok hΓ.dom hr).2
  omega
/-- An append to a row, or to nothing. -/
def evAppR (P : Program) (Γ : Facts) (e : TypeId) (s x : SV) (H : Hp) : Option Out := do
  let i ← P.info? e
  let B ← absOf P Γ e i.size x H
  let mb ← hiN Γ B.n
  match s with
  | .slice base 0 0 => if B.sh.length = i.size ∧ 0 < i.size ∧ appOk P e i 0 mb = true then some (.asl H.length B.n, H ++ [some ⟨[], e, false, true, some B⟩], []) else none
  | .asl b n => do
    let q ← rowOf H b n
    let ma ← hiN Γ n
    if q.1.ro = false ∧ q.1.elem = e ∧ B.sh = q.2.sh ∧ B.sh.length = i.size ∧ 0 < i.size ∧ appOk P e i ma mb = true ∧ insideL H.length q.1.cells = true then some (.asl H.length (mkAddI n B.n), H.set b none ++ [some ⟨[], e, false, true, some (catA q.2 B)⟩], [b]) else none
  | _ => none
def evAppendR (P : Program) (Γ : Facts) (ts : Array TypeId) (args : List SV) (H : Hp) : Option Out := do
  let t ← ts[0]?
  let t1 ← ts[1]?
  let d ← P.underlying t
  let d1 ← P.underlying t1
  if isSliceD d1 = true then (match d, args with
    | .slice e, [s, x] => evAppR P Γ e s x H
    | _, _ => none) else none
theorem appOk_mono {e : TypeId} {i : TypeInfo} {a b a' b' : Nat} (h : appOk P e i a b = true) (h1 : a' ≤ a) (h2 : b' ≤ b) : appOk P e i a' b' = true := by
  unfold appOk at h ⊢
  simp only [Bool.and_eq_true, decide_eq_true_eq] at h ⊢
  exact ⟨Nat.le_trans (Nat.mul_le_mul_right _ (by omega)) h.1, by omega, h.2.2⟩
/-- A row in an array of its own. -/
theorem rowAt_of {w : World} {x : Blk} {A : Abs} {k cap : Nat} {rest : List Value} {K : Nat} (hK : K = (A.n.den ρ).toNat) (nn : 0 ≤ A.n.den ρ) (hf : fitC A.sh A.cols = true) (hw : w.heap[k]? = some (.cells (rowsV ρ A K ++ rest).toArray x.elem (0, 0)))
    (hs : (rowsV ρ A K).length + rest.length = cap * P.cellsOf x.elem) (hcs : A.sh.length = P.cellsOf x.elem) (hcap : K ≤ cap) : RowAt P ρ x A ⟨k, cap, 0, none⟩ w := by
  subst hK
  refine ⟨nn, hf, (fun a h => by cases h), (fun _ => ⟨_, _, _, hw, fun j i hj hi => ?_, fun _ => ⟨rfl, rfl, rfl, by simpa using hs, hcs, hcap⟩⟩), fun _ => hcap⟩
  rw [List.getElem?_toArray, Nat.zero_add, List.getElem?_append_left, rowsV_get hf _ _ _ hj hi]
  rw [rowsV_len hf]
  have : (j + 1) * A.sh.length ≤ (A.n.den ρ).toNat * A.sh.length := Nat.mul_le_mul_right _ hj
  rw [Nat.add_mul] at this; omega
theorem evAppendR_ok (hΓ : Γ.Holds P ρ) {σ : Sg} {H : Hp} {w : World} (hr : HRel P ρ σ H w) {ts : Array TypeId} {rt : TypeId} {args : List SV} {r : Out} (h : evAppendR P Γ ts args H = some r) :
    ∃ u w', (Builtin.append_ ts rt (denL ρ σ args).toArray).run P w = .ok u w' ∧ Good P ρ σ H r w u w' := by
  unfold evAppendR at h
  simp only [Option.bind_eq_bind, Option.bind_eq_some_iff, Option.ite_none_right_eq_some] at h
  obtain ⟨t, ht, t1, ht1, d, hd, d1, hd1, hs1, h⟩ := h
  obtain ⟨e1, rfl⟩ : ∃ e1, d1 = .slice e1 := by cases d1 <;> simp [isSliceD] at hs1; exact ⟨_, rfl⟩
  split at h
  · rename_i e s x
    unfold evAppR at h
    simp only [Option.bind_eq_bind, Option.bind_eq_some_iff] at h
    obtain ⟨i, hi, B, hB, mb, hmb, h⟩ := h
    have hmb' := hiN_ok hΓ hmb
    have hcs : P.cellsOf e = i.size := by simp [Program.cellsOf, hi]
    simp only [denL]
    split at h
    · rename_i base
      simp only [Option.ite_none_right_eq_some, Option.some.injEq] at h
      obtain ⟨⟨hsz, hpos, hok⟩, rfl⟩ := h
      obtain ⟨nb, fb, lb, cb⟩ := absOf_ok hΓ hr hB hsz.symm
      obtain ⟨_, _, _, cbd⟩ := absOf_ok hΓ hr.drew hB hsz.symm
      have hsd : (SV.slice base 0 0).den ρ σ = .slice (base.map σ.addr) 0 0 := rfl
      rw [hsd]
      rcases Nat.eq_zero_or_pos (B.n.den ρ).toNat with hz | hp
      · -- nothing is appended
        rw [hz] at lb cb
        have hrun := append_zeroV (rt := rt) (base := base.map σ.addr) (len := 0) (cap := 0) ht ht1 hd hd1 hi lb (by simpa [rowsV] using cb) (Nat.le_refl _)
        have hp := Post.add (w' := w) hr ⟨[], e, false, true, some B⟩ ⟨0, 0, 0, some (base.map σ.addr)⟩ rfl (fun h => by cases h)
          (BlkAt.ofRows rfl rfl fun A hA => by
            simp only [Option.some.injEq] at hA; subst hA
            exact ⟨nb, fb, (fun _ _ => by omega), (fun h => by cases h), (fun h => by cases h)⟩) rfl rfl rfl (Nat.le_refl _) fun _ _ => rfl
        refine ⟨_, w, hrun, _, hp, ?_, by simp [SV.inside]⟩
        simp [SV.den, Sg.snocP]
      · obtain ⟨c, rest, hrun, hce, hcl⟩ := append_growV (rt := rt) (base := base.map σ.addr) (len := 0) (cap := 0) (old := []) ht ht1 hd hd1 hi lb (by cases base <;> simp [Builtin.firstCells, loadCells, loadCellsFrom]) cbd (by simp) (by rw [rowsV_len fb, hsz]) hok hmb' (by omega)
        simp only [List.nil_append, Nat.zero_add] at hrun hce hcl
        have hp := Post.add (w' := { w.drew with heap := w.heap.push (.cells (rowsV ρ B (B.n.den ρ).toNat ++ rest).toArray e (0, 0)) }) hr.drew ⟨[], e, false, true, some B⟩ ⟨w.heap.size, c, 0, none⟩ rfl (fun _ => Nat.le_refl _)
          (BlkAt.ofRows rfl rfl fun A hA => by
            simp only [Option.some.injEq] at hA; subst hA
            exact rowAt_of (P := P) rfl nb fb (by simp) hce (by rw [hcs]; exact hsz) hcl) rfl rfl rfl (by show w.heap.size ≤ (w.heap.push _).size; simp) fun k hk => by
              have hk' : k < w.heap.size := hk
              simp only [Array.getElem?_push]; rw [if_neg (by omega)]; rfl
        refine ⟨_, _, hrun, _, hp.drew, ?_, by simp [SV.inside]⟩
        simp [SV.den, Sg.snocP]
    · rename_i b n
      simp only [Option.bind_eq_some_iff, Option.ite_none_right_eq_some, Option.some.injEq] at h
      obtain ⟨⟨y, A⟩, hq, ma, hma, ⟨hro, rfl, hsh, hsz, hpos, hok, hci⟩, rfl⟩ := h
      have hma' := hiN_ok hΓ hma
      obtain ⟨h1, h2⟩ := rowOf_some hq
      obtain ⟨hb1, hb2⟩ := getA_some h1
      have R := hr.row h1
      simp only at hro hsh hci h2
      obtain ⟨nb, fb, lb, cb⟩ := absOf_ok hΓ hr hB hsz.symm
      obtain ⟨_, _, _, cbd⟩ := absOf_ok hΓ hr.drew hB hsz.symm
      have fa := R.fit
      have na := R.nn
      have hcat := catA_rows (ρ := ρ) hsh.symm fa fb na nb
      have fc := catA_fit hsh.symm fa fb
      have hsz' : A.sh.length = i.size := by rw [← hsh]; exact hsz
      have ecn : (catA A B).n.den ρ = A.n.den ρ + B.n.den ρ := mkAddI_den _ _ _
      have eK : (A.n.den ρ).toNat + (B.n.den ρ).toNat = ((catA A B).n.den ρ).toNat := by omega
      have nc : 0 ≤ (catA A B).n.den ρ := by omega
      have hshd : y.shd = false := by simp [Blk.shd, hro]
      have enm : (mkAddI n B.n) = (catA A B).n := by simp only [catA, h2]
      obtain ⟨nn, hs⟩ := hr.slice hq
      have hok' := appOk_mono hok hma' (Nat.le_refl mb)
      rcases hs with ⟨a, hg, hz, he⟩ | ⟨hg, he⟩
      · -- a row that lies nowhere
        rw [he]
        rw [← h2] at hz hok'
        rcases Nat.eq_zero_or_pos (B.n.den ρ).toNat with hzb | hpb
        · rw [hzb] at lb cb
          have hrun := append_zeroV (rt := rt) (base := a) (len := 0) (cap := 0) ht ht1 hd hd1 hi lb (by simpa [rowsV] using cb) (Nat.le_refl _)
          have hp := Post.move (w' := w) hr hb1 (fun h => absurd h (by simp [Blk.isRec, hro])) hshd (y := ⟨[], y.elem, false, true, some (catA A B)⟩) rfl
            (BlkAt.ofRows rfl rfl fun C hC => by
              simp only [Option.some.injEq] at hC; subst hC
              exact ⟨nc, fc, (fun _ _ => by omega), (fun h => by simp [Sg.pl, hg] at h), (fun h => by simp [Sg.pl, hg] at h)⟩) rfl rfl rfl rfl fun _ _ _ => rfl
          refine ⟨_, w, hrun, _, hp, ?_, by simp [SV.inside]⟩
          simp [SV.den, Sg.snocP, Sg.pl, hg]
        · obtain ⟨c, rest, hrun, hce, hcl⟩ := append_growV (rt := rt) (base := a) (len := 0) (cap := 0) (old := []) ht ht1 hd hd1 hi lb (by cases a <;> simp [Builtin.firstCells, loadCells, loadCellsFrom]) cbd (by simp) (by rw [rowsV_len fb, hsz]) (appOk_mono hok (Nat.zero_le _) (Nat.le_refl _)) hmb' (by omega)
          simp only [List.nil_append, Nat.zero_add] at hrun hce hcl
          have ez : (A.n.den ρ).toNat = 0 := by omega
          rw [ez] at hcat
          simp only [Nat.zero_add] at hcat
          have er : rowsV ρ A 0 = [] := rfl
          rw [er, List.nil_append] at hcat
          have hp1 := Post.drop hr hb1
          have hp2 := Post.add (w' := { w.drew with heap := w.heap.push (.cells (rowsV ρ B (B.n.den ρ).toNat ++ rest).toArray y.elem (0, 0)) }) hp1.rel.drew ⟨[], y.elem, false, true, some (catA A B)⟩ ⟨w.heap.size, c, 0, none⟩ rfl (fun _ => Nat.le_refl _)
            (BlkAt.ofRows rfl rfl fun C hC => by
              simp only [Option.some.injEq] at hC; subst hC
              exact rowAt_of (P := P) (K := (B.n.den ρ).toNat) (rest := rest) (by omega) nc fc (by rw [hcat]; simp) (by rw [hcat]; exact hce) (by rw [hcs]; exact hsz') hcl) rfl rfl rfl (by show w.heap.size ≤ (w.heap.push _).size; simp) fun k hk => by
                have hk' : k < w.heap.size := hk
                simp only [Array.getElem?_push]; rw [if_neg (by omega)]; rfl
          have hp := hp1.trans hp2.drew
          simp only [List.length_set, List.append_nil] at hp
          refine ⟨_, _, hrun, _, hp, ?_, by simp [SV.inside]⟩
          simp [SV.den, Sg.snocP, mkAddI_den]
          rw [← h2]; omega
      · rw [he]
        obtain ⟨cells, te, fr, hw, hcell, hown⟩ := R.at_ hg
        obtain ⟨rfl, rfl, hoff, hsize, hcsl, hcap⟩ := hown hro
        simp only [Sg.pl] at hw hcell hoff hsize hcap
        have hfo : ∀ w2 : World, w2.heap = w.heap → HRel P ρ σ H w2 → (Builtin.firstCells i.size (n.den ρ).toNat (.slice (some ⟨σ.blk b, σ.off b, none⟩) (n.den ρ).toNat (σ.cap b))).run P w2 = .ok (rowsV ρ A (A.n.den ρ).toNat).toArray w2 := by
          intro w2 _ hr2
          have := hr2.firstR hq (size := i.size) hsz'.symm
          rw [he] at this
          simp only at this
          rw [h2]; exact this
        by_cases hc : (n.den ρ).toNat + (B.n.den ρ).toNat ≤ σ.cap b
        · have hmul : ((n.den ρ).toNat + (B.n.den ρ).toNat) * i.size ≤ σ.cap b * i.size := Nat.mul_le_mul_right _ hc
          rw [Nat.add_mul] at hmul
          have hLl : cells.toList.length = σ.cap b * i.size := by rw [Array.length_toList, hsize, hcs]
          have hrl : (rowsV ρ B (B.n.den ρ).toNat).length = (B.n.den ρ).toNat * i.size := by rw [rowsV_len fb, hsz]
          obtain ⟨w', hrun, hu⟩ := append_roomV (rt := rt) (L := cells.toList) (te := y.elem) (k := σ.blk b) (off := σ.off b) ht ht1 hd hd1 hi lb cb rowsV_allcell hc (by simpa using hw) (by rw [hoff, hrl, hLl]; omega)
          have hal : (rowsV ρ A (A.n.den ρ).toNat).length = (n.den ρ).toNat * i.size := by rw [rowsV_len fa, hsz', h2]
          have htake : cells.toList.take ((n.den ρ).toNat * i.size) = rowsV ρ A (A.n.den ρ).toNat := by
            apply List.ext_getElem?
            intro m
            rw [List.getElem?_take]
            split
            · rename_i hm
              have hm' : m < (rowsV ρ A (A.n.den ρ).toNat).length := by omega
              obtain ⟨v, hv⟩ : ∃ v, (rowsV ρ A (A.n.den ρ).toNat)[m]? = some v := ⟨_, List.getElem?_eq_getElem hm'⟩
              obtain ⟨j, i', hj, hi', rfl, hcv⟩ := rowsV_cell fa hv
              have := hcell j i' hj hi'
              rw [hoff, Nat.zero_add] at this
              rw [hv, ← hcv, ← this]; simp
            · rename_i hm
              rw [List.getElem?_eq_none (by omega)]
          have hset : setL cells.toList (σ.off b + (n.den ρ).toNat * i.size) (rowsV ρ B (B.n.den ρ).toNat) = rowsV ρ (catA A B) ((A.n.den ρ).toNat + (B.n.den ρ).toNat) ++ cells.toList.drop ((n.den ρ).toNat * i.size + (rowsV ρ B (B.n.den ρ).toNat).length) := by
            rw [hoff, Nat.zero_add, hcat]
            simp only [setL, htake]
          have hp := Post.move (w' := w') hr hb1 (fun h => absurd h (by simp [Blk.isRec, hro])) hshd (y := ⟨[], y.elem, false, true, some (catA A B)⟩) rfl
            (BlkAt.ofRows rfl rfl fun C hC => by
              simp only [Option.some.injEq] at hC; subst hC
              have hpl : σ.pl b = ⟨σ.blk b, σ.cap b, 0, none⟩ := by simp [Sg.pl, hoff, hg]
              rw [hpl]
              refine rowAt_of (P := P) (x := ⟨[], y.elem, false, true, some (catA A B)⟩) eK nc fc (by rw [← hset]; exact hu.at_) ?_ (by rw [hcs]; exact hsz') (by rw [h2]; exact hc)
              rw [rowsV_len fc, List.length_drop, hLl, hrl, hcs]
              have : (catA A B).sh.length = i.size := hsz'
              rw [this, ← h2] at *
              rw [Nat.add_mul]; omega) hu.os hu.tape hu.out hu.size fun k hk hne => hu.other k fun e => hne hg e.symm
          refine ⟨_, w', hrun, _, hp, ?_, by simp [SV.inside]⟩
          simp [SV.den, Sg.snocP, Sg.pl, hg, mkAddI_den]
          rw [← h2]; omega
        · obtain ⟨c, rest, hrun, hce, hcl⟩ := append_growV (rt := rt) (base := some ⟨σ.blk b, σ.off b, none⟩) (len := (n.den ρ).toNat) (cap := σ.cap b) ht ht1 hd hd1 hi lb (hfo w.drew rfl hr.drew) cbd (by rw [rowsV_len fa, hsz', h2]) (by rw [rowsV_len fb, hsz]) (by exact hok') hmb' (by omega)
          rw [← hcat] at hrun hce
          have hp1 := Post.drop hr hb1
          have hp2 := Post.add (w' := { w.drew with heap := w.heap.push (.cells (rowsV ρ (catA A B) ((A.n.den ρ).toNat + (B.n.den ρ).toNat) ++ rest).toArray y.elem (0, 0)) }) hp1.rel.drew ⟨[], y.elem, false, true, some (catA A B)⟩ ⟨w.heap.size, c, 0, none⟩ rfl (fun _ => Nat.le_refl _)
            (BlkAt.ofRows rfl rfl fun C hC => by
              simp only [Option.some.injEq] at hC; subst hC
              exact rowAt_of (P := P) eK nc fc (by simp) hce (by rw [hcs]; exact hsz') (by rw [h2]; exact hcl)) rfl rfl rfl (by show w.heap.size ≤ (w.heap.push _).size; simp) fun k hk => by
                have hk' : k < w.heap.size := hk
                simp only [Array.getElem?_push]; rw [if_neg (by omega)]; rfl
          have hp := hp1.trans hp2.drew
          simp only [List.length_set, List.append_nil] at hp
          refine ⟨_, _, hrun, _, hp, ?_, by simp [SV.inside]⟩
          simp [SV.den, Sg.snocP, mkAddI_den]
          rw [← h2]; omega
    · cases h
  · cases h
end Go.Proofs.Ytgdhpgjfebinhaa.Ev
