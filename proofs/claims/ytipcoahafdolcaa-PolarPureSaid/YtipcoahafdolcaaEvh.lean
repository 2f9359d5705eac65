/- The symbolic machine's builtins. -/
import Derived.Test.YtipcoahafdolcaaEvg
namespace Go.Proofs.Ytipcoahafdolcaa.Ev
set_option linter.unusedSimpArgs false
open Go Go.RowKit
set_option linter.unusedVariables false
variable {P : Program} {ρ : Env} {Γ : Facts}

abbrev Out := SV × Hp × List Nat
/-- What an operation may leave. -/
def Good (P : Program) (ρ : Env) (σ : Sg) (H : Hp) (r : Out) (w : World) (u : Value) (w' : World) : Prop :=
  ∃ σ', Post P ρ σ σ' H r.2.1 r.2.2 w w' ∧ u = r.1.den ρ σ' ∧ r.1.inside r.2.1.length = true

theorem good_same {σ : Sg} {H : Hp} {w : World} {v : SV} (hr : HRel P ρ σ H w) (hv : v.inside H.length = true) : Good P ρ σ H (v, H, []) w (v.den ρ σ) w := ⟨σ, Post.refl hr, rfl, hv⟩

/-- So many cells from there. -/
def evCells (H : Hp) (a : Addr) (c : Nat) : Option (List SV) := if a.spot = none then do
  let x ← getB H a.block
  if a.off + c ≤ x.cells.length then some ((x.cells.drop a.off).take c) else none
  else none
theorem cells_ok {σ : Sg} {H : Hp} {w : World} (hr : HRel P ρ σ H w) {a : Addr} {c : Nat} {cs : List SV} (h : evCells H a c = some cs) :
    (loadCells (σ.addr a) c).run P w = .ok (denL ρ σ cs).toArray w ∧ insideL H.length cs = true ∧ cs.length = c := by
  unfold evCells at h
  simp only [Option.bind_eq_bind, Option.bind_eq_some_iff, Option.ite_none_right_eq_some, Option.some.injEq] at h
  obtain ⟨hs, x, hx, hle, rfl⟩ := h
  obtain ⟨hin, rest, hb, _, _⟩ := hr.blk _ _ (getB_some hx)
  rw [addr_none hs]
  have hlen : (denL ρ σ ((x.cells.drop a.off).take c)).length = c := by simp [denL_length]; omega
  refine ⟨?_, insideL_of fun v hv => insideL_mem hin (List.mem_of_mem_drop (List.mem_of_mem_take hv)), by simp; omega⟩
  have hl := run_loadCells_list (P := P) w ⟨σ.blk a.block, a.off, none⟩ (denL ρ σ ((x.cells.drop a.off).take c)) (fun j v hv => by
    rw [addr_add, cell_of hb]
    rw [denL_map] at hv ⊢
    rw [List.getElem?_append_left]
    · rw [List.map_take, List.getElem?_take] at hv
      split at hv
      · rw [List.map_drop, List.getElem?_drop] at hv; exact hv
      · cases hv
    · rw [List.map_take, List.getElem?_take] at hv
      split at hv
      · simp; omega
      · cases hv)
  rw [hlen] at hl
  exact hl

def evFirst (H : Hp) (x : SV) (c : Nat) : Option (List SV) := match x with
  | .slice none _ _ => if c = 0 then some [] else none
  | .slice (some a) _ _ => evCells H a c
  | .vec b _ => evCells H ⟨b, 0, none⟩ c
  | _ => none
theorem first_ok {σ : Sg} {H : Hp} {w : World} (hr : HRel P ρ σ H w) {x : SV} {n size : Nat} {cs : List SV} (h : evFirst H x (n * size) = some cs) :
    (Builtin.firstCells size n (x.den ρ σ)).run P w = .ok (denL ρ σ cs).toArray w ∧ insideL H.length cs = true ∧ cs.length = n * size := by
  unfold evFirst at h
  split at h
  · split at h
    · rename_i hc; cases h; exact ⟨by simp [SV.den, Builtin.firstCells, denL], rfl, by simp [hc]⟩
    · cases h
  · simp only [SV.den, Option.map_some, Builtin.firstCells]; exact cells_ok hr h
  · have := cells_ok hr h
    rw [addr_none rfl] at this
    simp only [SV.den, Builtin.firstCells]; exact this
  · cases h

def evLen : SV → Option Nat
  | .slice _ n _ => some n
  | .vec _ n => some n
  | .str s => some s.size
  | _ => none
theorem lenOf_ok {x : SV} {n : Nat} (h : evLen x = some n) (σ : Sg) : Runs P (Builtin.lenOf (x.den ρ σ)) n := by
  unfold evLen at h
  split at h <;> cases h <;> intro w <;> simp [SV.den, Builtin.lenOf]

theorem growBy_le (n : Nat) : ∀ (r c : Nat), c ≤ 2 * n → Builtin.growBy n r c ≤ 2 * n + 1000
  | 0, c, h => by simp [Builtin.growBy]; omega
  | r + 1, c, h => by
    unfold Builtin.growBy
    split
    · omega
    · rename_i hc
      by_cases h2 : c + (c + 768) / 4 ≤ 2 * n
      · exact growBy_le n r _ h2
      · cases r with
        | zero => simp [Builtin.growBy]; omega
        | succ r => unfold Builtin.growBy; rw [if_pos (by omega)]; omega
theorem nextcap_le {n c : Nat} (h : c < n) : Builtin.nextslicecap n c ≤ 2 * n + 1000 := by
  unfold Builtin.nextslicecap
  split
  · omega
  · split
    · omega
    · exact growBy_le n 4 c (by omega)

def isSliceD : TypeDesc → Bool
  | .slice _ => true
  | _ => false
def appOk (P : Program) (e : TypeId) (i : TypeInfo) (len n : Nat) : Bool :=
  decide ((2 * (len + n) + 1000) * i.bytes ≤ 2 ^ 48) && (decide (len + n ≤ 2 ^ 60) && (match embedZ P e with | some z => decide (z.length = i.size) | none => false))

def evAppV (P : Program) (e : TypeId) (i : TypeInfo) (b len n : Nat) (new : List SV) (H : Hp) : Option Out :=
  match getB H b with
  | some y => if y.opn = true ∧ y.ro = false ∧ y.elem = e ∧ 0 < i.size ∧ y.cells.length = len * i.size ∧ appOk P e i len n = true then some (.vec H.length (len + n), H.set b none ++ [some ⟨y.cells ++ new, e, false, true⟩], [b]) else none
  | none => none
def evAppS (P : Program) (e : TypeId) (i : TypeInfo) (base : Option Addr) (len cap n : Nat) (new : List SV) (H : Hp) : Option Out :=
  if len + n ≤ cap then
    match base with
    | none => some (.slice none (len + n) cap, H, [])
    | some a => match getB H a.block with
      | some y => if a.spot = none ∧ y.ro = false ∧ a.off + len * i.size + new.length ≤ y.cells.length then some (.slice (some a) (len + n) cap, H.set a.block (some { y with cells := setL y.cells (a.off + len * i.size) new }), [a.block]) else none
      | none => none
  else match evFirst H (.slice base len cap) (len * i.size) with
    | some old => if appOk P e i len n = true then some (.vec H.length (len + n), H ++ [some ⟨old ++ new, e, false, true⟩], []) else none
    | none => none
def evAppE (P : Program) (e : TypeId) (s x : SV) (H : Hp) : Option Out := do
  let i ← P.info? e
  let n ← evLen x
  let new ← evFirst H x (n * i.size)
  if new.all SV.isCell = true then (match s with
    | .vec b len => evAppV P e i b len n new H
    | .slice base len cap => evAppS P e i base len cap n new H
    | _ => none) else none
def evAppend (P : Program) (ts : Array TypeId) (args : List SV) (H : Hp) : Option Out := do
  let t ← ts[0]?
  let t1 ← ts[1]?
  let d ← P.underlying t
  let d1 ← P.underlying t1
  if isSliceD d1 = true then (match d, args with
    | .slice e, [s, x] => evAppE P e s x H
    | _, _ => none) else none

theorem appOk_ok {e : TypeId} {i : TypeInfo} {len n : Nat} (h : appOk P e i len n = true) : (2 * (len + n) + 1000) * i.bytes ≤ 2 ^ 48 ∧ len + n ≤ 2 ^ 60 ∧ ∃ z : Value, Runs P (zeroValue e) z ∧ z.cells.size = i.size := by
  unfold appOk at h
  simp only [Bool.and_eq_true, decide_eq_true_eq] at h
  obtain ⟨h1, h2, h3⟩ := h
  split at h3
  · rename_i z hz
    obtain ⟨v, hv, hc, _⟩ := embedZ_ok (ρ := ⟨fun _ => 0, fun _ => false, fun _ => .empty, fun _ => .nilFunc⟩) hz σ0
    exact ⟨h1, h2, v, hv, by rw [hc]; simp [denL_length]; exact of_decide_eq_true h3⟩
  · cases h3

/-- The part of an append that makes a new array. -/
theorem append_grow {σ : Sg} {H : Hp} {w : World} (hr : HRel P ρ σ H w) {ts : Array TypeId} {t t1 e e1 : TypeId} {i : TypeInfo} {s x : SV} {len cap n : Nat} {base : Option Addr} {old new : List SV} {rt : TypeId}
    (ht : ts[0]? = some t) (ht1 : ts[1]? = some t1) (hd : P.underlying t = some (.slice e)) (hd1 : P.underlying t1 = some (.slice e1)) (hi : P.info? e = some i)
    (hs : s.den ρ σ = .slice base len cap) (hn : evLen x = some n) (hnew : evFirst H x (n * i.size) = some new) (hold : evFirst H s (len * i.size) = some old) (hok : appOk P e i len n = true) (hcap : cap < len + n) :
    ∃ (c : Nat) (rest : List Value), (Builtin.append_ ts rt #[s.den ρ σ, x.den ρ σ]).run P w = .ok (.slice (some ⟨w.heap.size, 0, none⟩) (len + n) c) { w.drew with heap := w.heap.push (.cells (denL ρ σ (old ++ new) ++ rest).toArray e (0, 0)) } ∧
      (old ++ new).length + rest.length = c * P.cellsOf e := by
  obtain ⟨hb, hl, z, hz, hzs⟩ := appOk_ok hok
  obtain ⟨hfo, _, hlo⟩ := first_ok (P := P) hr.drew hold
  obtain ⟨hfn, _, hln⟩ := first_ok (P := P) hr.drew hnew
  refine ⟨len + n + w.tape w.drawn (.appendCap (len + n) cap e) % (2 ^ 63 - (len + n)), (Builtin.zeroCells z.cells (w.tape w.drawn (.appendCap (len + n) cap e) % (2 ^ 63 - (len + n)))).toList, ?_, ?_⟩
  · have hcap2 : Builtin.nextslicecap (len + n) cap * i.bytes ≤ 2 ^ 48 := Nat.le_trans (Nat.mul_le_mul_right _ (nextcap_le hcap)) hb
    have g1 : ¬ (len + n ≤ cap) := by omega
    have g2 : ¬ (281474976710656 < Builtin.nextslicecap (len + n) cap * i.bytes) := by omega
    have hlx := lenOf_ok (P := P) (ρ := ρ) hn σ w
    have g3 : ¬ (9223372036854775807 < ((len : Int) + (n : Int))) := by omega
    have hq : (Question.appendCap (len + n) cap e).forced = false := rfl
    rw [hs] at hfo ⊢
    simp [Builtin.append_, ht, ht1, run_underlying hd, run_underlying hd1, sizeOf, typeInfo, hi, hlx, g1, g2, g3, hq, Question.cut, hfo, hfn]
    rw [hz w.drew]
    simp [newRow, newObj, Sem.run, denL_append]
    have ez : ∀ (a b : List Value) (Z : Array Value), a.toArray ++ (b.toArray ++ Z) = (a ++ (b ++ Z.toList)).toArray := fun a b Z => by apply Array.ext'; simp
    rw [ez]; rfl
  · simp [hlo, hln, Builtin.zeroCells, Program.cellsOf, hi, hzs, Nat.add_mul]
/-- The part of an append that has room. -/
theorem append_room {σ : Sg} {H : Hp} {w : World} (hr : HRel P ρ σ H w) {ts : Array TypeId} {t t1 e e1 : TypeId} {i : TypeInfo} {s x : SV} {len cap n k off : Nat} {new : List SV} {rt : TypeId} {L : List Value} {te : TypeId}
    (ht : ts[0]? = some t) (ht1 : ts[1]? = some t1) (hd : P.underlying t = some (.slice e)) (hd1 : P.underlying t1 = some (.slice e1)) (hi : P.info? e = some i)
    (hs : s.den ρ σ = .slice (some ⟨k, off, none⟩) len cap) (hn : evLen x = some n) (hnew : evFirst H x (n * i.size) = some new) (hall : new.all SV.isCell = true) (hcap : len + n ≤ cap)
    (hk : w.heap[k]? = some (.cells L.toArray te (0, 0))) (hL : off + len * i.size + new.length ≤ L.length) :
    ∃ w', (Builtin.append_ ts rt #[s.den ρ σ, x.den ρ σ]).run P w = .ok (.slice (some ⟨k, off, none⟩) (len + n) cap) w' ∧ Upd w w' k (.cells (setL L (off + len * i.size) (denL ρ σ new)).toArray te (0, 0)) := by
  obtain ⟨hfn, _, hln⟩ := first_ok (P := P) hr hnew
  have hlx := lenOf_ok (P := P) (ρ := ρ) hn σ w
  obtain ⟨w', hrun, hu⟩ := run_storeCells (P := P) (t := te) (k := k) (off := off + len * i.size) (denL ρ σ new) 0 L w (fun u hu => by
    rw [denL_map] at hu
    obtain ⟨y, hy, rfl⟩ := List.mem_map.1 hu
    exact SV.isCell_den (List.all_eq_true.1 hall y hy)) hk (by simp [denL_length]; omega)
  refine ⟨w', ?_, by simpa using hu⟩
  rw [hs]
  simp [Builtin.append_, ht, ht1, run_underlying hd, run_underlying hd1, sizeOf, typeInfo, hi, hlx, hcap, hfn, addr_add, hrun]

theorem append_none {σ : Sg} {H : Hp} {w : World} (hr : HRel P ρ σ H w) {ts : Array TypeId} {t t1 e e1 : TypeId} {i : TypeInfo} {s x : SV} {len cap n : Nat} {new : List SV} {rt : TypeId}
    (ht : ts[0]? = some t) (ht1 : ts[1]? = some t1) (hd : P.underlying t = some (.slice e)) (hd1 : P.underlying t1 = some (.slice e1)) (hi : P.info? e = some i)
    (hs : s.den ρ σ = .slice none len cap) (hn : evLen x = some n) (hnew : evFirst H x (n * i.size) = some new) (hcap : len + n ≤ cap) :
    (Builtin.append_ ts rt #[s.den ρ σ, x.den ρ σ]).run P w = .ok (.slice none (len + n) cap) w := by
  obtain ⟨hfn, _, hln⟩ := first_ok (P := P) hr hnew
  have hlx := lenOf_ok (P := P) (ρ := ρ) hn σ w
  rw [hs]
  simp [Builtin.append_, ht, ht1, run_underlying hd, run_underlying hd1, sizeOf, typeInfo, hi, hlx, hcap, hfn]

theorem evAppend_ok {σ : Sg} {H : Hp} {w : World} (hr : HRel P ρ σ H w) {ts : Array TypeId} {rt : TypeId} {args : List SV} {r : Out} (h : evAppend P ts args H = some r) (hin : insideL H.length args = true) :
    ∃ u w', (Builtin.append_ ts rt (denL ρ σ args).toArray).run P w = .ok u w' ∧ Good P ρ σ H r w u w' := by
  unfold evAppend at h
  simp only [Option.bind_eq_bind, Option.bind_eq_some_iff, Option.ite_none_right_eq_some] at h
  obtain ⟨t, ht, t1, ht1, d, hd, d1, hd1, hs1, h⟩ := h
  obtain ⟨e1, rfl⟩ : ∃ e1, d1 = .slice e1 := by cases d1 <;> simp [isSliceD] at hs1; exact ⟨_, rfl⟩
  split at h
  · rename_i e s x
    unfold evAppE at h
    simp only [Option.bind_eq_bind, Option.bind_eq_some_iff, Option.ite_none_right_eq_some] at h
    obtain ⟨i, hi, n, hn, new, hnew, hall, h⟩ := h
    obtain ⟨_, hnin, hnl⟩ := first_ok (P := P) hr hnew
    simp only [insideL, Bool.and_eq_true, and_true] at hin
    simp only [denL]
    split at h
    · rename_i b len
      unfold evAppV at h
      split at h
      · rename_i y hy
        simp only [Option.ite_none_right_eq_some, Option.some.injEq] at h
        obtain ⟨⟨ho, hro, rfl, hsz, hyl, hok⟩, rfl⟩ := h
        have hy' := getB_some hy
        obtain ⟨hyin, rest, hrow, _, hopn⟩ := hr.blk _ _ hy'
        have hopn := hopn ho
        have hcs : P.cellsOf y.elem = i.size := by simp [Program.cellsOf, hi]
        rw [hcs] at hopn
        have hlt : b < H.length := (List.getElem?_eq_some_iff.1 hy').1
        by_cases hcap : len + n ≤ σ.cap b
        · have hlen : (denL ρ σ y.cells).length = len * i.size := by rw [denL_length, hyl]
          have hmul : (len + n) * i.size ≤ σ.cap b * i.size := Nat.mul_le_mul_right _ hcap
          rw [Nat.add_mul] at hmul
          obtain ⟨w', hrun, hu⟩ := append_room (rt := rt) hr ht ht1 hd hd1 hi (s := .vec b len) rfl hn hnew hall hcap hrow (by simp [denL_length]; omega)
          refine ⟨_, w', hrun, σ.snoc H.length (σ.blk b) (σ.cap b), ?_, ?_, ?_⟩
          · have e : setL (denL ρ σ y.cells ++ rest) (0 + len * i.size) (denL ρ σ new) = denL ρ σ (y.cells ++ new) ++ rest.drop (n * i.size) := by
              simp only [setL, Nat.zero_add]
              rw [List.take_append_of_le_length (by omega), List.take_of_length_le (by omega), List.drop_append, List.drop_eq_nil_of_le (by omega), denL_append]
              simp [hlen, denL_length, hnl]
            rw [e] at hu
            refine Post.onto hr hy' hnin hu ?_
            simp [hyl, hnl, hcs]; omega
          · simp [SV.den, Sg.snoc_blk, Sg.snoc_cap]
          · simp [SV.inside]
        · have hold : evFirst H (.vec b len) (len * i.size) = some y.cells := by
            simp [evFirst, evCells, hy, hyl, List.take_of_length_le]
          obtain ⟨c, rest', hrun, hce⟩ := append_grow (rt := rt) hr ht ht1 hd hd1 hi (s := .vec b len) rfl hn hnew hold hok (by omega)
          have hp1 := Post.drop hr hy'
          have hp2 := Post.allocO (w := w.drew) hp1.rel.drew (y.cells ++ new) rest' y.elem true c (by
            rw [List.length_set]
            exact insideL_of fun v hv => (List.mem_append.1 hv).elim (insideL_mem hyin) (insideL_mem hnin)) (fun h => by cases h) (fun _ => hce)
          have hp := hp1.trans hp2.drew
          simp only [List.length_set, List.append_nil] at hp
          refine ⟨_, _, hrun, _, hp, ?_, by simp [SV.inside]⟩
          simp [SV.den, Sg.snoc_blk, Sg.snoc_cap]
      · cases h
    · rename_i base len cap
      unfold evAppS at h
      split at h
      · rename_i hcap
        split at h
        · cases h
          exact ⟨_, w, append_none (rt := rt) hr ht ht1 hd hd1 hi (s := .slice none len cap) rfl hn hnew hcap, σ, Post.refl hr, rfl, rfl⟩
        · rename_i a
          split at h
          · rename_i y hy
            simp only [Option.ite_none_right_eq_some, Option.some.injEq] at h
            obtain ⟨⟨hs, hro, hle⟩, rfl⟩ := h
            have hy' := getB_some hy
            obtain ⟨hyin, rest, hrow, _, _⟩ := hr.blk _ _ hy'
            have hden : (SV.slice (some a) len cap).den ρ σ = .slice (some ⟨σ.blk a.block, a.off, none⟩) len cap := by
              simp [SV.den, addr_none hs]
            obtain ⟨w', hrun, hu⟩ := append_room (rt := rt) hr ht ht1 hd hd1 hi hden hn hnew hall hcap hrow (by simp [denL_length]; omega)
            refine ⟨_, w', hrun, σ, Post.put hr hy' hnin hle hrow hu, ?_, ?_⟩
            · simp [SV.den, addr_none hs]
            · have := of_decide_eq_true hin.1
              simp only [SV.inside, List.length_set]; exact decide_eq_true this
          · cases h
      · rename_i hcap
        split at h
        · rename_i old hold
          simp only [Option.ite_none_right_eq_some, Option.some.injEq] at h
          obtain ⟨hok, rfl⟩ := h
          obtain ⟨_, hoin, _⟩ := first_ok (P := P) hr hold
          obtain ⟨c, rest', hrun, hce⟩ := append_grow (rt := rt) hr ht ht1 hd hd1 hi (s := .slice base len cap) rfl hn hnew hold hok (by omega)
          have hp2 := Post.allocO (w := w.drew) hr.drew (old ++ new) rest' e true c (insideL_of fun v hv => (List.mem_append.1 hv).elim (insideL_mem hoin) (insideL_mem hnin)) (fun h => by cases h) (fun _ => hce)
          refine ⟨_, _, hrun, _, hp2.drew, ?_, by simp [SV.inside]⟩
          simp [SV.den, Sg.snoc_blk, Sg.snoc_cap]
        · cases h
    · cases h
  · cases h
end Go.Proofs.Ytipcoahafdolcaa.Ev
