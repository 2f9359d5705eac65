/- The symbolic machine's memory: loads, stores, new blocks, addresses, slices. -/
import Derived.Test.YtipcoahafdolcaaEve
namespace Go.Proofs.Ytipcoahafdolcaa.Ev
set_option linter.unusedSimpArgs false
open Go Go.RowKit
set_option linter.unusedVariables false
variable {P : Program} {ρ : Env} {Γ : Facts}

def getB (H : Hp) (b : Nat) : Option Blk := (H[b]?).join
theorem getB_some {H : Hp} {b : Nat} {x : Blk} (h : getB H b = some x) : H[b]? = some (some x) := by
  unfold getB at h
  cases e : H[b]? with
  | none => rw [e] at h; cases h
  | some y => rw [e] at h; simp at h; rw [h]

def evLoad (P : Program) (t : TypeId) (a : Addr) (H : Hp) : Option SV := if a.spot = none then do
  let x ← getB H a.block
  let i ← P.info? t
  let d ← P.underlying t
  if aggD d then (if a.off + i.size ≤ x.cells.length then some (.agg ((x.cells.drop a.off).take i.size)) else none) else x.cells[a.off]?
  else none

theorem addr_none {σ : Sg} {a : Addr} (h : a.spot = none) : σ.addr a = ⟨σ.blk a.block, a.off, none⟩ := by
  unfold Sg.addr; obtain ⟨b, o, s⟩ := a; simp at h; subst h; rfl

theorem cell_of {w : World} {k j : Nat} {L : List Value} {t : TypeId} (h : w.heap[k]? = some (.cells L.toArray t (0, 0))) : w.cell? ⟨k, j, none⟩ = L[j]? := by
  simp [World.cell?, h]

theorem load_ok {σ : Sg} {H : Hp} {w : World} (hr : HRel P ρ σ H w) {t : TypeId} {a : Addr} {v : SV} (h : evLoad P t a H = some v) :
    (loadVar t (σ.addr a)).run P w = .ok (v.den ρ σ) w ∧ v.inside H.length = true := by
  unfold evLoad at h
  simp only [Option.bind_eq_bind, Option.bind_eq_some_iff, Option.ite_none_right_eq_some] at h
  obtain ⟨hs, x, hx, i, hi, d, hd, h⟩ := h
  obtain ⟨hin, rest, hb, _, _⟩ := hr.blk _ _ (getB_some hx)
  rw [addr_none hs]
  split at h
  · rename_i ha
    split at h
    · rename_i hle
      cases h
      refine ⟨?_, insideL_of fun v hv => insideL_mem hin (List.mem_of_mem_drop (List.mem_of_mem_take hv))⟩
      have hl := run_loadCells_list (P := P) w ⟨σ.blk a.block, a.off, none⟩ (denL ρ σ ((x.cells.drop a.off).take i.size)) (fun j v hv => by
        rw [addr_add, cell_of hb]
        rw [denL_map] at hv ⊢
        rw [List.getElem?_append_left]
        · rw [List.map_take, List.getElem?_take] at hv
          split at hv
          · rw [List.map_drop, List.getElem?_drop] at hv; exact hv
          · cases hv
        · rw [List.map_take, List.getElem?_take] at hv
          split at hv
          · simp; omega
          · cases hv)
      have hlen : (denL ρ σ ((x.cells.drop a.off).take i.size)).length = i.size := by simp [denL_length]; omega
      rw [hlen] at hl
      simp [loadVar, run_isAgg hd w, ha, run_sizeOf hi w, hl, SV.den]
    · cases h
  · rename_i ha
    refine ⟨?_, insideL_mem hin (List.mem_of_getElem? h)⟩
    have hc : w.cell? ⟨σ.blk a.block, a.off, none⟩ = some (v.den ρ σ) := by
      have hlt := (List.getElem?_eq_some_iff.1 h).1
      rw [cell_of hb, List.getElem?_append_left (by rw [denL_length]; exact hlt), denL_map, List.getElem?_map, h]; rfl
    simp [loadVar, run_isAgg hd w, ha, hc]

def evStore (P : Program) (t : TypeId) (a : Addr) (v : SV) (H : Hp) : Option (Hp × List Nat) := if a.spot = none then do
  let x ← getB H a.block
  let i ← P.info? t
  if x.ro = false ∧ i.size = v.cells.length ∧ v.cells.all SV.isCell = true ∧ a.off + v.cells.length ≤ x.cells.length then some (H.set a.block (some { x with cells := setL x.cells a.off v.cells }), [a.block]) else none
  else none

theorem store_ok {σ : Sg} {H H' : Hp} {W : List Nat} {w : World} (hr : HRel P ρ σ H w) {t : TypeId} {a : Addr} {v : SV} (hv0 : v.isAny = false) (hv : v.inside H.length = true) (h : evStore P t a v H = some (H', W)) :
    ∃ w', (storeVar t (σ.addr a) (v.den ρ σ)).run P w = .ok () w' ∧ Post P ρ σ σ H H' W w w' := by
  unfold evStore at h
  simp only [Option.bind_eq_bind, Option.bind_eq_some_iff, Option.ite_none_right_eq_some, Option.some.injEq, Prod.mk.injEq] at h
  obtain ⟨hs, x, hx, i, hi, ⟨hro, hsz, hc, hle⟩, rfl, rfl⟩ := h
  have hx' := getB_some hx
  obtain ⟨hin, rest, hb, _, _⟩ := hr.blk _ _ hx'
  obtain ⟨w', hrun, hu⟩ := run_storeCells (P := P) (k := σ.blk a.block) (off := a.off) (denL ρ σ v.cells) 0 (denL ρ σ x.cells ++ rest) w (fun u hu => by
    rw [denL_map] at hu
    obtain ⟨y, hy, rfl⟩ := List.mem_map.1 hu
    exact SV.isCell_den (List.all_eq_true.1 hc y hy)) hb (by simp [denL_length]; omega)
  refine ⟨w', ?_, Post.put hr hx' (SV.cells_inside hv) hle hb (by simpa using hu)⟩
  rw [addr_none hs]
  simp [storeVar, run_sizeOf hi w, SV.cells_den _ _ _ hv0, denL_length, hsz, hrun]

/-- A new block. -/
theorem newRow_ok {σ : Sg} {H : Hp} {w : World} (hr : HRel P ρ σ H w) (t : TypeId) {cs : List SV} (hc : insideL H.length cs = true) :
    ∃ σ' w', (newRow t (denL ρ σ cs).toArray).run P w = .ok ⟨σ'.blk H.length, 0, none⟩ w' ∧ Post P ρ σ σ' H (H ++ [some ⟨cs, t, false, false⟩]) [] w w' := by
  refine ⟨_, _, ?_, Post.alloc hr cs t hc⟩
  simp [newRow, newObj, Sem.run, Sg.snoc_blk]

def evAddr : Option SV → Option Addr
  | some (.ptr (some a)) => some a
  | _ => none
theorem evAddr_some {x : Option SV} {a : Addr} (h : evAddr x = some a) : x = some (.ptr (some a)) := by
  unfold evAddr at h; split at h
  · cases h; rfl
  · cases h

def evField (P : Program) (s : TypeId) (a : Addr) (f : Nat) : Option Addr := do
  let d ← P.underlying s
  match d with
  | .struct fs => do
    let fd ← fs[f]?
    let i ← P.info? fd.type
    if i.size ≠ 0 ∧ a.spot = none then some ⟨a.block, a.off + fd.offset, none⟩ else none
  | _ => none
theorem field_ok {σ : Sg} {s : TypeId} {a a' : Addr} {f : Nat} (h : evField P s a f = some a') : Runs P (Instr.fieldAt s (.pointer (some (σ.addr a))) f) (.pointer (some (σ.addr a'))) ∧ a'.block = a.block := by
  unfold evField at h
  simp only [Option.bind_eq_bind, Option.bind_eq_some_iff] at h
  obtain ⟨d, hd, h⟩ := h
  split at h
  · simp only [Option.bind_eq_some_iff, Option.ite_none_right_eq_some, Option.some.injEq] at h
    obtain ⟨fd, hf, i, hi, ⟨hz, hs⟩, rfl⟩ := h
    refine ⟨fun w => ?_, rfl⟩
    rw [addr_none hs, addr_none rfl]
    simp [Instr.fieldAt, run_underlying hd, hf, Instr.sureAddr, fieldPlace, run_sizeOf hi w, hz, addr_add]
  · cases h

/-- The number in a value, if it is known. -/
def litI : SV → Option Int
  | .int _ (.lit n) => some n
  | _ => none
theorem litI_den {v : SV} {n : Int} (h : litI v = some n) (σ : Sg) : ∃ k, v.den ρ σ = .int k n := by
  unfold litI at h; split at h
  · cases h; exact ⟨_, rfl⟩
  · cases h

def evIndexAt (P : Program) (t : TypeId) (x : SV) (i : SV) : Option Addr := do
  let n ← litI i
  let d ← P.underlying t
  match d, x with
  | .array len e, .ptr (some a) => do
    let ti ← P.info? e
    if 0 ≤ n ∧ n < len ∧ a.spot = none then some ⟨a.block, a.off + n.toNat * ti.size, none⟩ else none
  | .slice e, .slice (some a) len _ => do
    let ti ← P.info? e
    if 0 ≤ n ∧ n < len ∧ a.spot = none then some ⟨a.block, a.off + n.toNat * ti.size, none⟩ else none
  | .slice e, .vec b len => do
    let ti ← P.info? e
    if 0 ≤ n ∧ n < len then some ⟨b, n.toNat * ti.size, none⟩ else none
  | _, _ => none
theorem indexAt_ok {σ : Sg} {t : TypeId} {x i : SV} {a : Addr} (h : evIndexAt P t x i = some a) : Runs P (Instr.indexAt t (x.den ρ σ) (i.den ρ σ)) (.pointer (some (σ.addr a))) ∧ ∀ m, x.inside m = true → a.block < m := by
  unfold evIndexAt at h
  simp only [Option.bind_eq_bind, Option.bind_eq_some_iff] at h
  obtain ⟨n, hn, d, hd, h⟩ := h
  obtain ⟨k, hk⟩ := litI_den (ρ := ρ) hn σ
  rw [hk]
  split at h
  · simp only [Option.bind_eq_some_iff, Option.ite_none_right_eq_some, Option.some.injEq] at h
    obtain ⟨ti, hi, ⟨h0, h1, hs⟩, rfl⟩ := h
    refine ⟨fun w => ?_, fun m hm => of_decide_eq_true hm⟩
    simp only [SV.den, Option.map_some]
    rw [addr_none hs, addr_none rfl]
    simp [Instr.indexAt, asIntOf, run_underlying hd, Instr.sureAddr, h0, h1, run_sizeOf hi w, addr_add]
  · simp only [Option.bind_eq_some_iff, Option.ite_none_right_eq_some, Option.some.injEq] at h
    obtain ⟨ti, hi, ⟨h0, h1, hs⟩, rfl⟩ := h
    refine ⟨fun w => ?_, fun m hm => of_decide_eq_true hm⟩
    simp only [SV.den, Option.map_some]
    rw [addr_none hs, addr_none rfl]
    simp [Instr.indexAt, asIntOf, run_underlying hd, Instr.sureAddr, h0, h1, run_sizeOf hi w, addr_add]
  · simp only [Option.bind_eq_some_iff, Option.ite_none_right_eq_some, Option.some.injEq] at h
    obtain ⟨ti, hi, ⟨h0, h1⟩, rfl⟩ := h
    refine ⟨fun w => ?_, fun m hm => of_decide_eq_true hm⟩
    simp only [SV.den]
    rw [addr_none rfl]
    simp [Instr.indexAt, asIntOf, run_underlying hd, Instr.sureAddr, h0, h1, run_sizeOf hi w, addr_add]
  · cases h

def evIndex (P : Program) (t : TypeId) (x : SV) (i : SV) : Option SV := do
  let n ← litI i
  let d ← P.underlying t
  match d, x with
  | .array len e, .agg cs => do
    let ti ← P.info? e
    if 0 ≤ n ∧ n < len then partS P e cs (n.toNat * ti.size) else none
  | .string, .str s => if 0 ≤ n then (s[n.toNat]?).map fun b => .int .u8 (.lit b.toNat) else none
  | _, _ => none
theorem index_ok {σ : Sg} {t : TypeId} {x i v : SV} (h : evIndex P t x i = some v) : Runs P (Instr.index t (x.den ρ σ) (i.den ρ σ)) (v.den ρ σ) ∧ ∀ m, x.inside m = true → v.inside m = true := by
  unfold evIndex at h
  simp only [Option.bind_eq_bind, Option.bind_eq_some_iff] at h
  obtain ⟨n, hn, d, hd, h⟩ := h
  obtain ⟨k, hk⟩ := litI_den (ρ := ρ) hn σ
  rw [hk]
  split at h
  · simp only [Option.bind_eq_some_iff, Option.ite_none_right_eq_some] at h
    obtain ⟨ti, hi, ⟨h0, h1⟩, hp⟩ := h
    obtain ⟨hr, hin⟩ := part_ok (ρ := ρ) hp σ
    refine ⟨fun w => ?_, fun m hm => hin m hm⟩
    simp [SV.den, Instr.index, asIntOf, run_underlying hd, h0, h1, run_sizeOf hi w, hr w]
  · split at h
    · rename_i h0
      obtain ⟨b, hb, rfl⟩ := Option.map_eq_some_iff.1 h
      refine ⟨fun w => ?_, fun m _ => rfl⟩
      simp [SV.den, NE.den, Instr.index, asIntOf, run_underlying hd, h0, hb]
    · cases h
  · cases h

def evFieldV (P : Program) (t : TypeId) (x : SV) (f : Nat) : Option SV := do
  let d ← P.underlying t
  match d, x with
  | .struct fs, .agg cs => do
    let fd ← fs[f]?
    partS P fd.type cs fd.offset
  | _, _ => none
theorem fieldV_ok {σ : Sg} {t : TypeId} {x v : SV} {f : Nat} (h : evFieldV P t x f = some v) : Runs P (Instr.field t (x.den ρ σ) f) (v.den ρ σ) ∧ ∀ m, x.inside m = true → v.inside m = true := by
  unfold evFieldV at h
  simp only [Option.bind_eq_bind, Option.bind_eq_some_iff] at h
  obtain ⟨d, hd, h⟩ := h
  split at h
  · simp only [Option.bind_eq_some_iff] at h
    obtain ⟨fd, hf, hp⟩ := h
    obtain ⟨hr, hin⟩ := part_ok (ρ := ρ) hp σ
    refine ⟨fun w => ?_, fun m hm => hin m hm⟩
    simp [SV.den, Instr.field, run_underlying hd, hf, asAgg, hr w]
  · cases h

def evExtract (x : SV) (i : Nat) : Option SV := match x with
  | .tuple vs => vs[i]?
  | _ => none
theorem extract_ok {σ : Sg} {x v : SV} {i : Nat} (h : evExtract x i = some v) : Runs P (Instr.extract (x.den ρ σ) i) (v.den ρ σ) ∧ ∀ m, x.inside m = true → v.inside m = true := by
  unfold evExtract at h
  split at h
  · refine ⟨fun w => ?_, fun m hm => insideL_mem hm (List.mem_of_getElem? h)⟩
    simp [SV.den, Instr.extract, denL_map, h]
  · cases h
end Go.Proofs.Ytipcoahafdolcaa.Ev
