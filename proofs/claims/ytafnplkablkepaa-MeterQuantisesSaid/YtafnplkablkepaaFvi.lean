/- The symbolic machine's memory: loads, stores, new blocks, addresses, slices. -/
import Derived.Test.YtafnplkablkepaaFve
import Derived.Laws.Build
import Derived.ControlIn
import Derived.CallsIn
import Derived.TacticsIn

namespace Go.Proofs.Ytafnplkablkepaa.Ev
set_option linter.unusedSimpArgs false
open Go Go.RowKit
set_option linter.unusedVariables false
variable {P : Program} {ρ : Env} {Γ : Facts}

def getB (H : Hp) (b : Nat) : Option Blk := (H[b]?).join
theorem getB_some {H : Hp} {b : Nat} {x : Blk} (h : getB H b = some x) : H[b]? = some (some x) := by
  unfold getB at h
  cases e : H[b]? with
  | none => rw [e] at h; cases h
  | some y => rw [e] at h; simp at h; rw [h]

/-- A block that is no row; a row. -/
def getC (H : Hp) (b : Nat) : Option Blk := match getB H b with
  | some x => if x.abs.isNone && !x.isRec then some x else none
  | none => none
def getA (H : Hp) (b : Nat) : Option (Blk × Abs) := match getB H b with
  | some x => x.abs.map fun A => (x, A)
  | none => none
theorem getC_some {H : Hp} {b : Nat} {x : Blk} (h : getC H b = some x) : H[b]? = some (some x) ∧ x.abs = none ∧ x.isRec = false := by
  unfold getC at h
  split at h
  · rename_i y hy
    split at h
    · rename_i hn; cases h; simp only [Bool.and_eq_true, Option.isNone_iff_eq_none, Bool.not_eq_true'] at hn; exact ⟨getB_some hy, hn.1, hn.2⟩
    · cases h
  · cases h
theorem getA_some {H : Hp} {b : Nat} {x : Blk} {A : Abs} (h : getA H b = some (x, A)) : H[b]? = some (some x) ∧ x.abs = some A := by
  unfold getA at h
  split at h
  · rename_i y hy
    obtain ⟨B, hB, he⟩ := Option.map_eq_some_iff.1 h
    cases he
    exact ⟨getB_some hy, hB⟩
  · cases h
theorem HRel.conR {σ : Sg} {H : Hp} {w : World} (hr : HRel P ρ σ H w) {b : Nat} {x : Blk} (h : getC H b = some x) :
    insideL H.length x.cells = true ∧ ∃ (rest : List Value) (fr : Nat × Nat), w.heap[σ.blk b]? = some (.cells (denL ρ σ x.cells ++ rest).toArray x.elem fr) ∧ (x.opn = false → x.ro = false → rest = []) ∧ (x.opn = true → x.cells.length + rest.length = σ.cap b * P.cellsOf x.elem) ∧ (x.ro = false → fr = (0, 0)) := by
  obtain ⟨h1, h2⟩ := getC_some h
  obtain ⟨hi, hat⟩ := hr.blk b x h1
  exact ⟨hi, (hat.con h2.1 h2.2).at_⟩
theorem HRel.con {σ : Sg} {H : Hp} {w : World} (hr : HRel P ρ σ H w) {b : Nat} {x : Blk} (h : getC H b = some x) (hro : x.ro = false) :
    insideL H.length x.cells = true ∧ ∃ rest : List Value, w.heap[σ.blk b]? = some (.cells (denL ρ σ x.cells ++ rest).toArray x.elem (0, 0)) ∧ (x.opn = false → rest = []) ∧ (x.opn = true → x.cells.length + rest.length = σ.cap b * P.cellsOf x.elem) := by
  obtain ⟨h1, rest, fr, h2, h3, h4, h5⟩ := hr.conR h
  obtain rfl := h5 hro
  exact ⟨h1, rest, h2, (fun h => h3 h hro), h4⟩
theorem HRel.row {σ : Sg} {H : Hp} {w : World} (hr : HRel P ρ σ H w) {b : Nat} {x : Blk} {A : Abs} (h : getA H b = some (x, A)) : RowAt P ρ x A (σ.pl b) w := by
  obtain ⟨h1, h2⟩ := getA_some h
  exact (hr.blk b x h1).2.row A h2

def evLoad (P : Program) (t : TypeId) (a : Addr) (H : Hp) : Option SV := if a.spot = none then do
  let x ← getC H a.block
  let i ← P.info? t
  let d ← P.underlying t
  if aggD d then (if a.off + i.size ≤ x.cells.length then some (.agg ((x.cells.drop a.off).take i.size)) else none) else x.cells[a.off]?
  else none

theorem addr_none {σ : Sg} {a : Addr} (h : a.spot = none) : σ.addr a = ⟨σ.blk a.block, a.off, none⟩ := by
  unfold Sg.addr; obtain ⟨b, o, s⟩ := a; simp at h; subst h; rfl

theorem cell_of {w : World} {k j : Nat} {L : List Value} {t : TypeId} {fr : Nat × Nat} (h : w.heap[k]? = some (.cells L.toArray t fr)) : w.cell? ⟨k, j, none⟩ = L[j]? := by
  simp [World.cell?, h]

theorem load_ok {σ : Sg} {H : Hp} {w : World} (hr : HRel P ρ σ H w) {t : TypeId} {a : Addr} {v : SV} (h : evLoad P t a H = some v) :
    (loadVar t (σ.addr a)).run P w = .ok (v.den ρ σ) w ∧ v.inside H.length = true := by
  unfold evLoad at h
  simp only [Option.bind_eq_bind, Option.bind_eq_some_iff, Option.ite_none_right_eq_some] at h
  obtain ⟨hs, x, hx, i, hi, d, hd, h⟩ := h
  obtain ⟨hin, rest, _, hb, _⟩ := hr.conR hx
  rw [addr_none hs]
  split at h
  · rename_i ha
    split at h
    · rename_i hle
      cases h
      refine ⟨?_, insideL_of fun v hv => insideL_mem hin (List.mem_of_mem_drop (List.mem_of_mem_take hv))⟩
      have hl := run_loadCells_list (P := P) w ⟨σ.blk a.block, a.off, none⟩ (denL ρ σ ((x.cells.drop a.off).take i.size)) (fun j v hv => by
        rw [addr_add, cell_of hb]
        rw [denL_map] at hv ⊢
        rw [List.getElem?_append_left]
        · rw [List.map_take, List.getElem?_take] at hv
          split at hv
          · rw [List.map_drop, List.getElem?_drop] at hv; exact hv
          · cases hv
        · rw [List.map_take, List.getElem?_take] at hv
          split at hv
          · simp; omega
          · cases hv)
      have hlen : (denL ρ σ ((x.cells.drop a.off).take i.size)).length = i.size := by simp [denL_length]; omega
      rw [hlen] at hl
      simp [loadVar, run_isAgg hd w, ha, run_sizeOf hi w, hl, SV.den]
    · cases h
  · rename_i ha
    refine ⟨?_, insideL_mem hin (List.mem_of_getElem? h)⟩
    have hc : w.cell? ⟨σ.blk a.block, a.off, none⟩ = some (v.den ρ σ) := by
      have hlt := (List.getElem?_eq_some_iff.1 h).1
      rw [cell_of hb, List.getElem?_append_left (by rw [denL_length]; exact hlt), denL_map, List.getElem?_map, h]; rfl
    simp [loadVar, run_isAgg hd w, ha, hc]

def evStore (P : Program) (t : TypeId) (a : Addr) (v : SV) (H : Hp) : Option (Hp × List Nat) := if a.spot = none then do
  let x ← getC H a.block
  let i ← P.info? t
  if x.ro = false ∧ i.size = v.cells.length ∧ v.cells.all SV.isCell = true ∧ a.off + v.cells.length ≤ x.cells.length then some (H.set a.block (some { x with cells := setL x.cells a.off v.cells }), [a.block]) else none
  else none

theorem store_ok {σ : Sg} {H H' : Hp} {W : List Nat} {w : World} (hr : HRel P ρ σ H w) {t : TypeId} {a : Addr} {v : SV} (hv0 : v.isAny = false) (hv : v.inside H.length = true) (h : evStore P t a v H = some (H', W)) :
    ∃ w', (storeVar t (σ.addr a) (v.den ρ σ)).run P w = .ok () w' ∧ Post P ρ σ σ H H' W w w' := by
  unfold evStore at h
  simp only [Option.bind_eq_bind, Option.bind_eq_some_iff, Option.ite_none_right_eq_some, Option.some.injEq, Prod.mk.injEq] at h
  obtain ⟨hs, x, hx, i, hi, ⟨hro, hsz, hc, hle⟩, rfl, rfl⟩ := h
  have hx' := getC_some hx
  obtain ⟨hin, rest, hb, _, _⟩ := hr.con hx hro
  obtain ⟨w', hrun, hu⟩ := run_storeCells (P := P) (k := σ.blk a.block) (off := a.off) (denL ρ σ v.cells) 0 (denL ρ σ x.cells ++ rest) w (fun u hu => by
    rw [denL_map] at hu
    obtain ⟨y, hy, rfl⟩ := List.mem_map.1 hu
    exact SV.isCell_den (List.all_eq_true.1 hc y hy)) hb (by simp [denL_length]; omega)
  refine ⟨w', ?_, Post.put hr hx'.1 hx'.2.1 hx'.2.2 (SV.cells_inside hv) hle hb (by simpa using hu)⟩
  rw [addr_none hs]
  simp [storeVar, run_sizeOf hi w, SV.cells_den _ _ _ hv0, denL_length, hsz, hrun]

/-- A new block. -/
theorem newRow_ok {σ : Sg} {H : Hp} {w : World} (hr : HRel P ρ σ H w) (t : TypeId) {cs : List SV} (hc : insideL H.length cs = true) :
    ∃ σ' w', (newRow t (denL ρ σ cs).toArray).run P w = .ok ⟨σ'.blk H.length, 0, none⟩ w' ∧ Post P ρ σ σ' H (H ++ [some ⟨cs, t, false, false, none⟩]) [] w w' := by
  refine ⟨_, _, ?_, Post.alloc hr cs t hc⟩
  simp [newRow, newObj, Sem.run, Sg.snoc_blk]

def evAddr : Option SV → Option Addr
  | some (.ptr (some a)) => some a
  | _ => none
theorem evAddr_some {x : Option SV} {a : Addr} (h : evAddr x = some a) : x = some (.ptr (some a)) := by
  unfold evAddr at h; split at h
  · cases h; rfl
  · cases h

def evField (P : Program) (s : TypeId) (a : Addr) (f : Nat) : Option Addr := do
  let d ← P.underlying s
  match d with
  | .struct fs => do
    let fd ← fs[f]?
    let i ← P.info? fd.type
    if i.size ≠ 0 ∧ a.spot = none then some ⟨a.block, a.off + fd.offset, none⟩ else none
  | _ => none
theorem field_ok {σ : Sg} {s : TypeId} {a a' : Addr} {f : Nat} (h : evField P s a f = some a') : Runs P (Instr.fieldAt s (.pointer (some (σ.addr a))) f) (.pointer (some (σ.addr a'))) ∧ a'.block = a.block := by
  unfold evField at h
  simp only [Option.bind_eq_bind, Option.bind_eq_some_iff] at h
  obtain ⟨d, hd, h⟩ := h
  split at h
  · simp only [Option.bind_eq_some_iff, Option.ite_none_right_eq_some, Option.some.injEq] at h
    obtain ⟨fd, hf, i, hi, ⟨hz, hs⟩, rfl⟩ := h
    refine ⟨fun w => ?_, rfl⟩
    rw [addr_none hs, addr_none rfl]
    simp [Instr.fieldAt, run_underlying hd, hf, Instr.sureAddr, fieldPlace, run_sizeOf hi w, hz, addr_add]
  · cases h

/-- The number in a value, if it is known. -/
def litI : SV → Option Int
  | .int _ (.lit n) => some n
  | _ => none
theorem litI_den {v : SV} {n : Int} (h : litI v = some n) (σ : Sg) : ∃ k, v.den ρ σ = .int k n := by
  unfold litI at h; split at h
  · cases h; exact ⟨_, rfl⟩
  · cases h

def evIndexAt (P : Program) (t : TypeId) (x : SV) (i : SV) : Option Addr := do
  let n ← litI i
  let d ← P.underlying t
  match d, x with
  | .array len e, .ptr (some a) => do
    let ti ← P.info? e
    if 0 ≤ n ∧ n < len ∧ a.spot = none then some ⟨a.block, a.off + n.toNat * ti.size, none⟩ else none
  | .slice e, .slice (some a) len _ => do
    let ti ← P.info? e
    if 0 ≤ n ∧ n < len ∧ a.spot = none then some ⟨a.block, a.off + n.toNat * ti.size, none⟩ else none
  | .slice e, .vec b len => do
    let ti ← P.info? e
    if 0 ≤ n ∧ n < len then some ⟨b, n.toNat * ti.size, none⟩ else none
  | _, _ => none
theorem indexAt_ok {σ : Sg} {t : TypeId} {x i : SV} {a : Addr} (h : evIndexAt P t x i = some a) : Runs P (Instr.indexAt t (x.den ρ σ) (i.den ρ σ)) (.pointer (some (σ.addr a))) ∧ ∀ m, x.inside m = true → a.block < m := by
  unfold evIndexAt at h
  simp only [Option.bind_eq_bind, Option.bind_eq_some_iff] at h
  obtain ⟨n, hn, d, hd, h⟩ := h
  obtain ⟨k, hk⟩ := litI_den (ρ := ρ) hn σ
  rw [hk]
  split at h
  · simp only [Option.bind_eq_some_iff, Option.ite_none_right_eq_some, Option.some.injEq] at h
    obtain ⟨ti, hi, ⟨h0, h1, hs⟩, rfl⟩ := h
    refine ⟨fun w => ?_, fun m hm => of_decide_eq_true hm⟩
    simp only [SV.den, Option.map_some]
    rw [addr_none hs, addr_none rfl]
    simp [Instr.indexAt, asIntOf, run_underlying hd, Instr.sureAddr, h0, h1, run_sizeOf hi w, addr_add]
  · simp only [Option.bind_eq_some_iff, Option.ite_none_right_eq_some, Option.some.injEq] at h
    obtain ⟨ti, hi, ⟨h0, h1, hs⟩, rfl⟩ := h
    refine ⟨fun w => ?_, fun m hm => of_decide_eq_true hm⟩
    simp only [SV.den, Option.map_some]
    rw [addr_none hs, addr_none rfl]
    simp [Instr.indexAt, asIntOf, run_underlying hd, Instr.sureAddr, h0, h1, run_sizeOf hi w, addr_add]
  · simp only [Option.bind_eq_some_iff, Option.ite_none_right_eq_some, Option.some.injEq] at h
    obtain ⟨ti, hi, ⟨h0, h1⟩, rfl⟩ := h
    refine ⟨fun w => ?_, fun m hm => of_decide_eq_true hm⟩
    simp only [SV.den]
    rw [addr_none rfl]
    simp [Instr.indexAt, asIntOf, run_underlying hd, Instr.sureAddr, h0, h1, run_sizeOf hi w, addr_add]
  · cases h

def evIndex (P : Program) (t : TypeId) (x : SV) (i : SV) : Option SV := do
  let n ← litI i
  let d ← P.underlying t
  match d, x with
  | .array len e, .agg cs => do
    let ti ← P.info? e
    if 0 ≤ n ∧ n < len then partS P e cs (n.toNat * ti.size) else none
  | .string, .str s => if 0 ≤ n then (s[n.toNat]?).map fun b => .int .u8 (.lit b.toNat) else none
  | _, _ => none
theorem index_ok {σ : Sg} {t : TypeId} {x i v : SV} (h : evIndex P t x i = some v) : Runs P (Instr.index t (x.den ρ σ) (i.den ρ σ)) (v.den ρ σ) ∧ ∀ m, x.inside m = true → v.inside m = true := by
  unfold evIndex at h
  simp only [Option.bind_eq_bind, Option.bind_eq_some_iff] at h
  obtain ⟨n, hn, d, hd, h⟩ := h
  obtain ⟨k, hk⟩ := litI_den (ρ := ρ) hn σ
  rw [hk]
  split at h
  · simp only [Option.bind_eq_some_iff, Option.ite_none_right_eq_some] at h
    obtain ⟨ti, hi, ⟨h0, h1⟩, hp⟩ := h
    obtain ⟨hr, hin⟩ := part_ok (ρ := ρ) hp σ
    refine ⟨fun w => ?_, fun m hm => hin m hm⟩
    simp [SV.den, Instr.index, asIntOf, run_underlying hd, h0, h1, run_sizeOf hi w, hr w]
  · split at h
    · rename_i h0
      obtain ⟨b, hb, rfl⟩ := Option.map_eq_some_iff.1 h
      refine ⟨fun w => ?_, fun m _ => rfl⟩
      simp [SV.den, NE.den, Instr.index, asIntOf, run_underlying hd, h0, hb]
    · cases h
  · cases h

def evFieldV (P : Program) (t : TypeId) (x : SV) (f : Nat) : Option SV := do
  let d ← P.underlying t
  match d, x with
  | .struct fs, .agg cs => do
    let fd ← fs[f]?
    partS P fd.type cs fd.offset
  | _, _ => none
theorem fieldV_ok {σ : Sg} {t : TypeId} {x v : SV} {f : Nat} (h : evFieldV P t x f = some v) : Runs P (Instr.field t (x.den ρ σ) f) (v.den ρ σ) ∧ ∀ m, x.inside m = true → v.inside m = true := by
  unfold evFieldV at h
  simp only [Option.bind_eq_bind, Option.bind_eq_some_iff] at h
  obtain ⟨d, hd, h⟩ := h
  split at h
  · simp only [Option.bind_eq_some_iff] at h
    obtain ⟨fd, hf, hp⟩ := h
    obtain ⟨hr, hin⟩ := part_ok (ρ := ρ) hp σ
    refine ⟨fun w => ?_, fun m hm => hin m hm⟩
    simp [SV.den, Instr.field, run_underlying hd, hf, asAgg, hr w]
  · cases h

def evExtract (x : SV) (i : Nat) : Option SV := match x with
  | .tuple vs => vs[i]?
  | _ => none
theorem extract_ok {σ : Sg} {x v : SV} {i : Nat} (h : evExtract x i = some v) : Runs P (Instr.extract (x.den ρ σ) i) (v.den ρ σ) ∧ ∀ m, x.inside m = true → v.inside m = true := by
  unfold evExtract at h
  split at h
  · refine ⟨fun w => ?_, fun m hm => insideL_mem hm (List.mem_of_getElem? h)⟩
    simp [SV.den, Instr.extract, denL_map, h]
  · cases h

/-- Whether a number surely is from 0 to below another one. -/
def inR (Γ : Facts) (i n : NE) : Bool := (res Γ (mkIcmp .leq (.lit 0) i) == some true) && (res Γ (mkIcmp .lss i n) == some true)
theorem inR_ok (hΓ : Γ.Holds P ρ) {i n : NE} (h : inR Γ i n = true) : 0 ≤ i.den ρ ∧ i.den ρ < n.den ρ := by
  simp only [inR, Bool.and_eq_true, beq_iff_eq] at h
  have h1 := res_den hΓ h.1
  have h2 := res_den hΓ h.2
  rw [mkIcmp_den] at h1 h2
  simp only [COp.int, NE.den] at h1 h2
  exact ⟨of_decide_eq_true h1, of_decide_eq_true h2⟩

theorem RowAt.cell {x : Blk} {A : Abs} {p : Pl} {w : World} (h : RowAt P ρ x A p w) {j : Int} (h0 : 0 ≤ j) (h1 : j < A.n.den ρ) {i : Nat} (hi : i < A.sh.length) :
    w.cell? ⟨p.blk, p.off + j.toNat * A.sh.length + i, none⟩ = (cellsV ρ j A.sh A.cols)[i]? := by
  have hg : p.gh = none := by
    cases hg : p.gh with
    | none => rfl
    | some a => have := h.gh a hg; omega
  obtain ⟨c, t, fr, hw, hc, _⟩ := h.at_ hg
  have := hc j.toNat i (by omega) hi
  rw [Int.toNat_of_nonneg h0] at this
  simp [World.cell?, hw, this]
theorem RowAt.cells {x : Blk} {A : Abs} {p : Pl} {w : World} (h : RowAt P ρ x A p w) (σ : Sg) {i : NE} (h0 : 0 ≤ i.den ρ) (h1 : i.den ρ < A.n.den ρ) (c n : Nat) (hn : c + n ≤ A.sh.length) :
    (loadCells ⟨p.blk, p.off + (i.den ρ).toNat * A.sh.length + c, none⟩ n).run P w = .ok (denL ρ σ (((cellsE i A.sh A.cols).drop c).take n)).toArray w := by
  have hd : denL ρ σ (((cellsE i A.sh A.cols).drop c).take n) = ((cellsV ρ (i.den ρ) A.sh A.cols).drop c).take n := by
    rw [denL_map, List.map_take, List.map_drop, ← denL_map, cellsE_den]
  have hl : (cellsV ρ (i.den ρ) A.sh A.cols).length = A.sh.length := fitC_len ρ _ _ _ h.fit
  have := run_loadCells_list (P := P) w ⟨p.blk, p.off + (i.den ρ).toNat * A.sh.length + c, none⟩ (((cellsV ρ (i.den ρ) A.sh A.cols).drop c).take n) (fun j v hv => by
    rw [List.getElem?_take] at hv
    split at hv
    · rw [List.getElem?_drop] at hv
      rw [addr_add, Nat.add_assoc, h.cell h0 h1 (by omega)]
      exact hv
    · cases hv)
  have hl2 : (((cellsV ρ (i.den ρ) A.sh A.cols).drop c).take n).length = n := by simp [hl]; omega
  rw [hl2] at this
  rw [hd]; exact this

def evLoadR (P : Program) (Γ : Facts) (t : TypeId) (b : Nat) (i : NE) (st c : Nat) (H : Hp) : Option SV := do
  let q ← getA H b
  let ti ← P.info? t
  let d ← P.underlying t
  if st = q.2.sh.length ∧ inR Γ i q.2.n = true then
    (if aggD d then (if c + ti.size ≤ st then some (.agg (((cellsE i q.2.sh q.2.cols).drop c).take ti.size)) else none)
    else if c < st then (cellsE i q.2.sh q.2.cols)[c]? else none)
  else none
theorem loadR_ok (hΓ : Γ.Holds P ρ) {σ : Sg} {H : Hp} {w : World} (hr : HRel P ρ σ H w) {t : TypeId} {b : Nat} {i : NE} {st c : Nat} {v : SV} (h : evLoadR P Γ t b i st c H = some v) :
    (loadVar t ⟨σ.blk b, σ.off b + (i.den ρ).toNat * st + c, none⟩).run P w = .ok (v.den ρ σ) w ∧ v.inside H.length = true := by
  unfold evLoadR at h
  simp only [Option.bind_eq_bind, Option.bind_eq_some_iff, Option.ite_none_right_eq_some] at h
  obtain ⟨⟨x, A⟩, hx, ti, hi, d, hd, ⟨hst, hin⟩, h⟩ := h
  have R := hr.row hx
  obtain ⟨h0, h1⟩ := inR_ok hΓ hin
  simp only at hst h0 h1 h
  have hl : (cellsV ρ (i.den ρ) A.sh A.cols).length = A.sh.length := fitC_len ρ _ _ _ R.fit
  split at h
  · rename_i ha
    split at h
    · rename_i hle
      cases h
      refine ⟨?_, insideL_of fun v hv => insideL_mem (cellsE_inside _ i A.sh A.cols) (List.mem_of_mem_drop (List.mem_of_mem_take hv))⟩
      have := R.cells σ h0 h1 c ti.size (by omega)
      simp only [Sg.pl] at this
      rw [hst]
      simp [loadVar, run_isAgg hd w, ha, run_sizeOf hi w, this, SV.den]
    · cases h
  · rename_i ha
    split at h
    · rename_i hlt
      refine ⟨?_, insideL_mem (cellsE_inside _ i A.sh A.cols) (List.mem_of_getElem? h)⟩
      have hc := R.cell h0 h1 (i := c) (by omega)
      have e : (cellsV ρ (i.den ρ) A.sh A.cols)[c]? = some (v.den ρ σ) := by
        rw [← cellsE_den ρ σ i A.sh A.cols, denL_map, List.getElem?_map, h]; rfl
      simp only [Sg.pl] at hc
      rw [hst]
      simp [loadVar, run_isAgg hd w, ha, hc, e]
    · cases h

/-- A truth as a number. -/
def BE.toN : BE → Option NE
  | .lit b => some (.lit (if b then 1 else 0))
  | .icmp .eql a b => some (.bin .eqN a b)
  | .icmp .leq a b => some (.bin .leN a b)
  | .not a => (a.toN).map fun x => .bin .subI (.lit 1) x
  | .and a b => match a.toN, b.toN with
    | some x, some y => some (.bin .mulI x y)
    | _, _ => none
  | _ => none
theorem BE.toN_den : ∀ {b : BE} {x : NE}, b.toN = some x → x.den ρ = if b.den ρ then 1 else 0
  | .lit b, x, h => by simp only [BE.toN] at h; cases h; cases b <;> simp [NE.den, BE.den]
  | .var _, x, h => by simp [BE.toN] at h
  | .fcmp _ _ _ _, x, h => by simp [BE.toN] at h
  | .beq _ _, x, h => by simp [BE.toN] at h
  | .icmp o a b, x, h => by
    cases o <;> simp [BE.toN] at h
    · subst h; simp [NE.den, BE.den, NOp.den, COp.int]
    · subst h; simp [NE.den, BE.den, NOp.den, COp.int]
  | .not a, x, h => by
    simp only [BE.toN] at h
    obtain ⟨y, hy, rfl⟩ := Option.map_eq_some_iff.1 h
    have := BE.toN_den hy
    simp only [NE.den, NOp.den, this, BE.den]
    by_cases hb : BE.den ρ a = true <;> simp [hb]
  | .and a b, x, h => by
    simp only [BE.toN] at h
    split at h
    · rename_i y z hy hz
      cases h
      have h1 := BE.toN_den hy
      have h2 := BE.toN_den hz
      simp only [NE.den, NOp.den, h1, h2, BE.den]
      by_cases ha : BE.den ρ a = true <;> by_cases hb : BE.den ρ b = true <;> simp [ha, hb]
    · cases h
/-- Cells of an element are other ones now. -/
def updC (Γ : Facts) (i : NE) : Nat → List SV → List CK → List NE → Option (List NE)
  | _, [], _, l => some l
  | 0, v :: vs, .int k :: s, a :: l => (match v with
    | .int k' e => if k = k' then (updC Γ i 0 vs s l).map (.aupd a i e :: ·) else none
    | _ => none)
  | 0, v :: vs, .float k :: s, a :: l => (match v with
    | .float k' e => if k = k' then (updC Γ i 0 vs s l).map (.aupd a i e :: ·) else none
    | _ => none)
  | 0, v :: vs, .complex k :: s, a :: b :: l => (match v with
    | .complex k' e f => if k = k' then (updC Γ i 0 vs s l).map (fun l => .aupd a i e :: .aupd b i f :: l) else none
    | _ => none)
  | 0, v :: vs, .bool :: s, a :: l => (match v with
    | .bool e => (match res Γ e with
      | some x => (updC Γ i 0 vs s l).map (.aupd a i (.lit (if x then 1 else 0)) :: ·)
      | none => (match e.toN with
        | some x => (updC Γ i 0 vs s l).map (.aupd a i x :: ·)
        | none => none))
    | _ => none)
  | 0, v :: vs, .str :: s, a :: l => (match v with
    | .strn e => (updC Γ i 0 vs s l).map (.aupd a i e :: ·)
    | .str b => (updC Γ i 0 vs s l).map (.aupd a i (.lit (enS b)) :: ·)
    | _ => none)
  | c + 1, vs, .int _ :: s, a :: l => (updC Γ i c vs s l).map (a :: ·)
  | c + 1, vs, .float _ :: s, a :: l => (updC Γ i c vs s l).map (a :: ·)
  | c + 1, vs, .complex _ :: s, a :: b :: l => (updC Γ i c vs s l).map (fun l => a :: b :: l)
  | c + 1, vs, .bool :: s, a :: l => (updC Γ i c vs s l).map (a :: ·)
  | c + 1, vs, .str :: s, a :: l => (updC Γ i c vs s l).map (a :: ·)
  | _, _, _, _ => none
theorem setL_zero {α : Type} (x v : α) (l vs : List α) : setL (x :: l) 0 (v :: vs) = v :: setL l 0 vs := by simp [setL]
theorem setL_succ {α : Type} (x : α) (l vs : List α) (c : Nat) : setL (x :: l) (c + 1) vs = x :: setL l c vs := by simp [setL, Nat.add_right_comm c 1]
theorem setL_get {α : Type} (l v : List α) (n k : Nat) (h : n + v.length ≤ l.length) : (setL l n v)[k]? = if n ≤ k ∧ k < n + v.length then v[k - n]? else l[k]? := by
  simp only [setL, List.append_assoc]
  rw [List.getElem?_append]
  have e : (l.take n).length = n := by simp; omega
  rw [e]
  split
  · rename_i h1
    rw [if_neg (by omega), List.getElem?_take, if_pos h1]
  · rename_i h1
    rw [List.getElem?_append]
    split
    · rename_i h2; rw [if_pos (by omega)]
    · rename_i h2
      rw [if_neg (by omega), List.getElem?_drop]
      congr 1; omega
/-- What changed cells are. -/
structure UpdC (ρ : Env) (σ : Sg) (i : NE) (c : Nat) (vs : List SV) (s : List CK) (l l' : List NE) : Prop where
  fit : fitC s l' = true
  other : ∀ j, j ≠ i.den ρ → cellsV ρ j s l' = cellsV ρ j s l
  here : cellsV ρ (i.den ρ) s l' = setL (cellsV ρ (i.den ρ) s l) c (denL ρ σ vs)
theorem toN_bool (b : Bool) : (!((if b = true then (1 : Int) else 0) == 0)) = b := by cases b <;> rfl
theorem updC_ok (hΓ : Γ.Holds P ρ) (σ : Sg) {i : NE} : ∀ (c : Nat) (vs : List SV) (s : List CK) (l l' : List NE), updC Γ i c vs s l = some l' → fitC s l = true → UpdC ρ σ i c vs s l l'
  | c, [], s, l, l', h, hf => by
    have : l' = l := by simp [updC] at h; exact h.symm
    subst this
    exact ⟨hf, fun _ _ => rfl, by simp [denL, setL_nil]⟩
  | 0, v :: vs, (.int k) :: s, a :: l, l', h, hf => by
    simp only [fitC] at hf
    simp only [updC] at h
    split at h
    · split at h
      · rename_i hk
        subst hk
        obtain ⟨r, hr, rfl⟩ := Option.map_eq_some_iff.1 h
        have I := updC_ok hΓ σ 0 vs s l r hr hf
        refine ⟨by simp only [fitC]; exact I.fit, fun j hj => ?_, ?_⟩
        · simp [cellsV, NE.aden, hj, I.other j hj]
        · simp [cellsV, NE.aden, denL, SV.den, setL_zero, I.here]
      · cases h
    · cases h
  | c + 1, v :: vs, (.int k) :: s, a :: l, l', h, hf => by
    simp only [fitC] at hf
    simp only [updC] at h
    obtain ⟨r, hr, rfl⟩ := Option.map_eq_some_iff.1 h
    have I := updC_ok hΓ σ c (v :: vs) s l r hr hf
    refine ⟨by simp only [fitC]; exact I.fit, fun j hj => ?_, ?_⟩
    · simp [cellsV, I.other j hj]
    · simp [cellsV, setL_succ, I.here]
  | 0, v :: vs, (.int k) :: s, [], l', h, hf => by cases hf
  | c + 1, v :: vs, (.int k) :: s, [], l', h, hf => by cases hf
  | 0, v :: vs, (.float k) :: s, a :: l, l', h, hf => by
    simp only [fitC] at hf
    simp only [updC] at h
    split at h
    · split at h
      · rename_i hk
        subst hk
        obtain ⟨r, hr, rfl⟩ := Option.map_eq_some_iff.1 h
        have I := updC_ok hΓ σ 0 vs s l r hr hf
        refine ⟨by simp only [fitC]; exact I.fit, fun j hj => ?_, ?_⟩
        · simp [cellsV, NE.aden, hj, I.other j hj]
        · simp [cellsV, NE.aden, denL, SV.den, setL_zero, I.here]
      · cases h
    · cases h
  | c + 1, v :: vs, (.float k) :: s, a :: l, l', h, hf => by
    simp only [fitC] at hf
    simp only [updC] at h
    obtain ⟨r, hr, rfl⟩ := Option.map_eq_some_iff.1 h
    have I := updC_ok hΓ σ c (v :: vs) s l r hr hf
    refine ⟨by simp only [fitC]; exact I.fit, fun j hj => ?_, ?_⟩
    · simp [cellsV, I.other j hj]
    · simp [cellsV, setL_succ, I.here]
  | 0, v :: vs, (.float k) :: s, [], l', h, hf => by cases hf
  | c + 1, v :: vs, (.float k) :: s, [], l', h, hf => by cases hf
  | 0, v :: vs, (.complex k) :: s, a :: b :: l, l', h, hf => by
    simp only [fitC] at hf
    simp only [updC] at h
    split at h
    · split at h
      · rename_i hk
        subst hk
        obtain ⟨r, hr, rfl⟩ := Option.map_eq_some_iff.1 h
        have I := updC_ok hΓ σ 0 vs s l r hr hf
        refine ⟨by simp only [fitC]; exact I.fit, fun j hj => ?_, ?_⟩
        · simp [cellsV, NE.aden, hj, I.other j hj]
        · simp [cellsV, NE.aden, denL, SV.den, setL_zero, I.here]
      · cases h
    · cases h
  | c + 1, v :: vs, (.complex k) :: s, a :: b :: l, l', h, hf => by
    simp only [fitC] at hf
    simp only [updC] at h
    obtain ⟨r, hr, rfl⟩ := Option.map_eq_some_iff.1 h
    have I := updC_ok hΓ σ c (v :: vs) s l r hr hf
    refine ⟨by simp only [fitC]; exact I.fit, fun j hj => ?_, ?_⟩
    · simp [cellsV, I.other j hj]
    · simp [cellsV, setL_succ, I.here]
  | 0, v :: vs, (.complex k) :: s, [], l', h, hf => by cases hf
  | 0, v :: vs, (.complex k) :: s, [_], l', h, hf => by cases hf
  | c + 1, v :: vs, (.complex k) :: s, [], l', h, hf => by cases hf
  | c + 1, v :: vs, (.complex k) :: s, [_], l', h, hf => by cases hf
  | 0, v :: vs, .bool :: s, a :: l, l', h, hf => by
    simp only [fitC] at hf
    simp only [updC] at h
    split at h
    · split at h
      · rename_i e x hx
        obtain ⟨r, hr, rfl⟩ := Option.map_eq_some_iff.1 h
        have I := updC_ok hΓ σ 0 vs s l r hr hf
        have he := res_den hΓ hx
        refine ⟨by simp only [fitC]; exact I.fit, fun j hj => ?_, ?_⟩
        · simp [cellsV, NE.aden, hj, I.other j hj]
        · simp [cellsV, NE.aden, NE.den, denL, SV.den, setL_zero, I.here, he]
          cases x <;> simp
      · split at h
        · rename_i x hx
          obtain ⟨r, hr, rfl⟩ := Option.map_eq_some_iff.1 h
          have I := updC_ok hΓ σ 0 vs s l r hr hf
          have he := BE.toN_den (ρ := ρ) hx
          refine ⟨by simp only [fitC]; exact I.fit, fun j hj => ?_, ?_⟩
          · simp [cellsV, NE.aden, hj, I.other j hj]
          · simp only [cellsV, NE.aden, denL, SV.den, setL_zero, I.here, he, toN_bool, if_true]
        · cases h
    · cases h
  | c + 1, v :: vs, .bool :: s, a :: l, l', h, hf => by
    simp only [fitC] at hf
    simp only [updC] at h
    obtain ⟨r, hr, rfl⟩ := Option.map_eq_some_iff.1 h
    have I := updC_ok hΓ σ c (v :: vs) s l r hr hf
    refine ⟨by simp only [fitC]; exact I.fit, fun j hj => ?_, ?_⟩
    · simp [cellsV, I.other j hj]
    · simp [cellsV, setL_succ, I.here]
  | 0, v :: vs, .bool :: s, [], l', h, hf => by cases hf
  | c + 1, v :: vs, .bool :: s, [], l', h, hf => by cases hf
  | 0, v :: vs, .str :: s, a :: l, l', h, hf => by
    simp only [fitC] at hf
    simp only [updC] at h
    split at h
    · obtain ⟨r, hr, rfl⟩ := Option.map_eq_some_iff.1 h
      have I := updC_ok hΓ σ 0 vs s l r hr hf
      refine ⟨by simp only [fitC]; exact I.fit, fun j hj => ?_, ?_⟩
      · simp [cellsV, NE.aden, hj, I.other j hj]
      · simp [cellsV, NE.aden, NE.den, denL, SV.den, setL_zero, I.here]
    · obtain ⟨r, hr, rfl⟩ := Option.map_eq_some_iff.1 h
      have I := updC_ok hΓ σ 0 vs s l r hr hf
      refine ⟨by simp only [fitC]; exact I.fit, fun j hj => ?_, ?_⟩
      · simp [cellsV, NE.aden, hj, I.other j hj]
      · simp [cellsV, NE.aden, NE.den, denL, SV.den, setL_zero, I.here, deS_enS]
    · cases h
  | c + 1, v :: vs, .str :: s, a :: l, l', h, hf => by
    simp only [fitC] at hf
    simp only [updC] at h
    obtain ⟨r, hr, rfl⟩ := Option.map_eq_some_iff.1 h
    have I := updC_ok hΓ σ c (v :: vs) s l r hr hf
    refine ⟨by simp only [fitC]; exact I.fit, fun j hj => ?_, ?_⟩
    · simp [cellsV, I.other j hj]
    · simp [cellsV, setL_succ, I.here]
  | 0, v :: vs, .str :: s, [], l', h, hf => by cases hf
  | c + 1, v :: vs, .str :: s, [], l', h, hf => by cases hf
  | 0, v :: vs, [], l, l', h, hf => by simp [updC] at h
  | c + 1, v :: vs, [], l, l', h, hf => by simp [updC] at h

def evStoreR (P : Program) (Γ : Facts) (t : TypeId) (b : Nat) (i : NE) (st c : Nat) (v : SV) (H : Hp) : Option (Hp × List Nat) := do
  let q ← getA H b
  let ti ← P.info? t
  if q.1.ro = false ∧ st = q.2.sh.length ∧ inR Γ i q.2.n = true ∧ ti.size = v.cells.length ∧ v.cells.all SV.isCell = true ∧ c + v.cells.length ≤ st then do
    let l ← updC Γ i c v.cells q.2.sh q.2.cols
    some (H.set b (some { q.1 with abs := some { q.2 with cols := l } }), [b])
  else none
theorem mulPos {st j k i c n : Nat} (hi : i < st) (hc : c + n ≤ st) (h1 : k * st + c ≤ j * st + i) (h2 : j * st + i < k * st + c + n) : j = k := by
  rcases Nat.lt_trichotomy j k with h | h | h
  · have : (j + 1) * st ≤ k * st := Nat.mul_le_mul_right _ h
    rw [Nat.add_mul] at this; omega
  · exact h
  · have : (k + 1) * st ≤ j * st := Nat.mul_le_mul_right _ h
    rw [Nat.add_mul] at this; omega
theorem storeR_ok (hΓ : Γ.Holds P ρ) {σ : Sg} {H H' : Hp} {W : List Nat} {w : World} (hr : HRel P ρ σ H w) {t : TypeId} {b : Nat} {i : NE} {st c : Nat} {v : SV} (hv0 : v.isAny = false) (h : evStoreR P Γ t b i st c v H = some (H', W)) :
    ∃ w', (storeVar t ⟨σ.blk b, σ.off b + (i.den ρ).toNat * st + c, none⟩ (v.den ρ σ)).run P w = .ok () w' ∧ Post P ρ σ σ H H' W w w' := by
  unfold evStoreR at h
  simp only [Option.bind_eq_bind, Option.bind_eq_some_iff, Option.ite_none_right_eq_some, Option.some.injEq, Prod.mk.injEq] at h
  obtain ⟨⟨x, A⟩, hx, ti, hi, ⟨hro, hst, hin, hsz, hc, hle⟩, l, hl, rfl, rfl⟩ := h
  have R := hr.row hx
  obtain ⟨hx1, hx2⟩ := getA_some hx
  obtain ⟨hci, _⟩ := hr.blk b x hx1
  obtain ⟨h0, h1⟩ := inR_ok hΓ hin
  simp only at hro hst h0 h1 hl hle
  have U := updC_ok hΓ σ c v.cells A.sh A.cols l hl R.fit
  have hg : σ.gh b = none := by
    cases hg : σ.gh b with
    | none => rfl
    | some a => have := R.gh a hg; omega
  obtain ⟨cs, te, fr, hw, hcell, hown⟩ := R.at_ hg
  obtain ⟨rfl, rfl, hoff, hsize, hcs, hcap⟩ := hown hro
  simp only [Sg.pl] at hw hcell hoff hsize hcap
  have hlen : (cellsV ρ (i.den ρ) A.sh A.cols).length = A.sh.length := fitC_len ρ _ _ _ R.fit
  have hmul : ((i.den ρ).toNat + 1) * st ≤ σ.cap b * st := Nat.mul_le_mul_right _ (by omega)
  rw [Nat.add_mul] at hmul
  have hvl : (denL ρ σ v.cells).length = v.cells.length := by rw [denL_length]
  have hLl : cs.toList.length = σ.cap b * st := by rw [Array.length_toList, hsize, hst, hcs]
  obtain ⟨w', hrun, hu⟩ := run_storeCells (P := P) (t := x.elem) (k := σ.blk b) (off := σ.off b + (i.den ρ).toNat * st + c) (denL ρ σ v.cells) 0 cs.toList w (fun u hu => by
    rw [denL_map] at hu
    obtain ⟨y, hy, rfl⟩ := List.mem_map.1 hu
    exact SV.isCell_den (List.all_eq_true.1 hc y hy)) (by simpa using hw) (by rw [hvl, hLl, hoff]; omega)
  refine ⟨w', ?_, Post.upd hr hx1 (fun h => absurd h (by simp [Blk.isRec, hro])) (by simp [Blk.shd, hro]) (by simp [Blk.shd, hro]) hci (BlkAt.ofRow rfl ?_) hu.os hu.tape hu.out hu.size fun k hk hne => hu.other k fun e => hne hg e.symm⟩
  · simp [storeVar, run_sizeOf hi w, SV.cells_den _ _ _ hv0, denL_length, hsz, hrun]
  · refine ⟨R.nn, U.fit, R.gh, (fun _ => ⟨(setL cs.toList (σ.off b + (i.den ρ).toNat * st + c + 0) (denL ρ σ v.cells)).toArray, x.elem, (0, 0), hu.at_, fun j m hj hm => ?_, fun _ => ⟨rfl, rfl, hoff, ?_, hcs, hcap⟩⟩), R.cp⟩
    · simp only [Sg.pl] at hj hm ⊢
      have hold := hcell j m hj hm
      rw [List.getElem?_toArray, setL_get _ _ _ _ (by rw [hvl, hLl, hoff]; omega)]
      rw [hoff] at hold ⊢
      simp only [Nat.zero_add, Nat.add_zero] at hold ⊢
      by_cases hji : j = (i.den ρ).toNat
      · have ej : (j : Int) = i.den ρ := by omega
        have hold2 := hold
        rw [hji, ← hst] at hold2
        have ej2 : (((i.den ρ).toNat : Nat) : Int) = i.den ρ := by omega
        rw [ej2] at hold2
        rw [ej, U.here, setL_get _ _ _ _ (by rw [hvl, hlen]; omega), hvl]
        rw [← hst, hji]
        by_cases hcm : c ≤ m ∧ m < c + v.cells.length
        · rw [if_pos (by omega), if_pos hcm]; congr 1; omega
        · rw [if_neg (by omega), if_neg hcm, ← hold2]; simp
      · rw [U.other j (by omega), if_neg, ← hold]
        · simp
        · rintro ⟨g1, g2⟩
          rw [hvl] at g2
          rw [← hst] at g1 g2
          exact hji (mulPos (by omega) hle g1 g2)
    · simp only [List.size_toArray, Sg.pl]
      rw [setL_length _ _ _ (by rw [hvl, hLl, hoff]; omega), Array.length_toList, hsize]

/-- The row of a slice. -/
def rowOf (H : Hp) (b : Nat) (n : NE) : Option (Blk × Abs) := match getA H b with
  | some q => if q.2.n = n then some q else none
  | none => none
theorem rowOf_some {H : Hp} {b : Nat} {n : NE} {q : Blk × Abs} (h : rowOf H b n = some q) : getA H b = some q ∧ q.2.n = n := by
  unfold rowOf at h
  split at h
  · rename_i r hr
    split at h
    · rename_i hn; cases h; exact ⟨hr, hn⟩
    · cases h
  · cases h
/-- A slice that is a row, as the model's. -/
theorem HRel.slice {σ : Sg} {H : Hp} {w : World} (hr : HRel P ρ σ H w) {b : Nat} {n : NE} {q : Blk × Abs} (h : rowOf H b n = some q) :
    0 ≤ n.den ρ ∧ ((∃ a, σ.gh b = some a ∧ n.den ρ = 0 ∧ (SV.asl b n).den ρ σ = .slice a 0 0) ∨ (σ.gh b = none ∧ (SV.asl b n).den ρ σ = .slice (some ⟨σ.blk b, σ.off b, none⟩) (n.den ρ).toNat (σ.cap b))) := by
  obtain ⟨h1, h2⟩ := rowOf_some h
  have R := hr.row h1
  have nn := R.nn
  rw [h2] at nn
  refine ⟨nn, ?_⟩
  cases hg : σ.gh b with
  | none => exact .inr ⟨rfl, by simp [SV.den, hg]⟩
  | some a =>
    have := R.gh a hg
    rw [h2] at this
    exact .inl ⟨a, rfl, this, by simp [SV.den, hg]⟩

/-- A number that surely is one of 0 to n - 1, and which one, by what is known. -/
def litJ (Γ : Facts) (j : NE) (n : Nat) : Nat → Nat → Option Nat
  | _, 0 => none
  | k, m + 1 => if k + 1 = n then some k else match res Γ (mkIcmp .eql j (.lit k)) with
    | some true => some k
    | some false => litJ Γ j n (k + 1) m
    | none => none
theorem litJ_ok (hΓ : Γ.Holds P ρ) {j : NE} {n : Nat} (h0 : 0 ≤ j.den ρ ∧ j.den ρ < n) : ∀ {m k l : Nat}, (k : Int) ≤ j.den ρ → litJ Γ j n k m = some l → j.den ρ = l ∧ l < n := by
  intro m
  induction m with
  | zero => intro k l _ h; cases h
  | succ m ih =>
    intro k l hk h
    unfold litJ at h
    split at h
    · cases h; omega
    · split at h
      · rename_i hr
        cases h
        have h1 := res_den hΓ hr
        rw [mkIcmp_den] at h1
        simp only [COp.int, NE.den] at h1
        have := eq_of_beq h1
        omega
      · rename_i hr
        have h1 := res_den hΓ hr
        rw [mkIcmp_den] at h1
        simp only [COp.int, NE.den] at h1
        have h2 : j.den ρ ≠ k := by
          intro e; rw [e] at h1; simp at h1
        exact ih (by omega) h
      · cases h
/-- The same, asked only where the number surely lies there. -/
def litK (Γ : Facts) (j : NE) (n : Nat) : Option Nat := if n ≤ 16 ∧ inR Γ j (.lit n) = true then litJ Γ j n 0 n else none
theorem litK_ok (hΓ : Γ.Holds P ρ) {j : NE} {n k : Nat} (h : litK Γ j n = some k) : j.den ρ = k ∧ k < n := by
  unfold litK at h
  simp only [Option.ite_none_right_eq_some] at h
  obtain ⟨⟨_, hin⟩, h⟩ := h
  have h0 := inR_ok hΓ hin
  simp only [NE.den] at h0
  exact litJ_ok hΓ h0 (by simpa using h0.1) h
def evIndexR (P : Program) (Γ : Facts) (t : TypeId) (x i : SV) (H : Hp) : Option SV := match x, i with
  | .asl b n, .int _ j => do
    let _ ← rowOf H b n
    let d ← P.underlying t
    match d with
    | .slice e => do
      let ti ← P.info? e
      if inR Γ j n = true then some (.eptr b j ti.size 0) else none
    | _ => none
  | .ptr (some a), .int _ j => do
    let d ← P.underlying t
    match d with
    | .array len e => do
      let ti ← P.info? e
      let k ← litK Γ j len
      if a.spot = none then some (.ptr (some ⟨a.block, a.off + k * ti.size, none⟩)) else none
    | _ => none
  | .slice (some a) len _, .int _ j => do
    let d ← P.underlying t
    match d with
    | .slice e => do
      let ti ← P.info? e
      let k ← litK Γ j len
      if a.spot = none then some (.ptr (some ⟨a.block, a.off + k * ti.size, none⟩)) else none
    | _ => none
  | .eptr b j st c, i => do
    let m ← litI i
    let d ← P.underlying t
    match d with
    | .array len e => do
      let ti ← P.info? e
      if 0 ≤ m ∧ m < len then some (.eptr b j st (c + m.toNat * ti.size)) else none
    | _ => none
  | _, _ => none
theorem indexR_ok (hΓ : Γ.Holds P ρ) {σ : Sg} {H : Hp} {w : World} (hr : HRel P ρ σ H w) {t : TypeId} {x i v : SV} (h : evIndexR P Γ t x i H = some v) :
    (Instr.indexAt t (x.den ρ σ) (i.den ρ σ)).run P w = .ok (v.den ρ σ) w ∧ ∀ m, x.inside m = true → v.inside m = true := by
  unfold evIndexR at h
  split at h
  · rename_i b n k j
    simp only [Option.bind_eq_bind, Option.bind_eq_some_iff] at h
    obtain ⟨q, hq, d, hd, h⟩ := h
    split at h
    · simp only [Option.bind_eq_some_iff, Option.ite_none_right_eq_some, Option.some.injEq] at h
      obtain ⟨ti, hi, hin, rfl⟩ := h
      obtain ⟨h0, h1⟩ := inR_ok hΓ hin
      obtain ⟨nn, hs⟩ := hr.slice hq
      rcases hs with ⟨a, _, hz, _⟩ | ⟨_, he⟩
      · omega
      · refine ⟨?_, fun m hm => hm⟩
        rw [he]
        have h1' : j.den ρ < ((n.den ρ).toNat : Int) := by omega
        simp [SV.den, Instr.indexAt, asIntOf, run_underlying hd, Instr.sureAddr, h0, h1', run_sizeOf hi w, addr_add]
        intro h9; omega
    · cases h
  · rename_i a k j
    simp only [Option.bind_eq_bind, Option.bind_eq_some_iff] at h
    obtain ⟨d, hd, h⟩ := h
    split at h
    · simp only [Option.bind_eq_some_iff, Option.ite_none_right_eq_some, Option.some.injEq] at h
      obtain ⟨ti, hi, l, hl, hs, rfl⟩ := h
      obtain ⟨h0, h1⟩ := litK_ok hΓ hl
      refine ⟨?_, fun m hm => hm⟩
      simp only [SV.den, Option.map_some, h0]
      rw [addr_none hs, addr_none rfl]
      simp [Instr.indexAt, asIntOf, run_underlying hd, Instr.sureAddr, h1, run_sizeOf hi w, addr_add]
    · cases h
  · rename_i a len cp k j
    simp only [Option.bind_eq_bind, Option.bind_eq_some_iff] at h
    obtain ⟨d, hd, h⟩ := h
    split at h
    · simp only [Option.bind_eq_some_iff, Option.ite_none_right_eq_some, Option.some.injEq] at h
      obtain ⟨ti, hi, l, hl, hs, rfl⟩ := h
      obtain ⟨h0, h1⟩ := litK_ok hΓ hl
      refine ⟨?_, fun m hm => hm⟩
      simp only [SV.den, Option.map_some, h0]
      rw [addr_none hs, addr_none rfl]
      simp [Instr.indexAt, asIntOf, run_underlying hd, Instr.sureAddr, h1, run_sizeOf hi w, addr_add]
    · cases h
  · rename_i b j st c
    simp only [Option.bind_eq_bind, Option.bind_eq_some_iff] at h
    obtain ⟨m, hm, d, hd, h⟩ := h
    obtain ⟨k, hk⟩ := litI_den (ρ := ρ) hm σ
    split at h
    · simp only [Option.bind_eq_some_iff, Option.ite_none_right_eq_some, Option.some.injEq] at h
      obtain ⟨ti, hi, ⟨h0, h1⟩, rfl⟩ := h
      refine ⟨?_, fun m hm => hm⟩
      rw [hk]
      simp [SV.den, Instr.indexAt, asIntOf, run_underlying hd, Instr.sureAddr, h0, h1, run_sizeOf hi w, addr_add, Nat.add_assoc]
    · cases h
  · cases h

def evFieldR (P : Program) (s : TypeId) (x : SV) (f : Nat) : Option SV := match x with
  | .eptr b i st c => do
    let d ← P.underlying s
    match d with
    | .struct fs => do
      let fd ← fs[f]?
      let ti ← P.info? fd.type
      if ti.size ≠ 0 then some (.eptr b i st (c + fd.offset)) else none
    | _ => none
  | _ => none
theorem fieldR_ok {σ : Sg} {s : TypeId} {x v : SV} {f : Nat} (h : evFieldR P s x f = some v) : Runs P (Instr.fieldAt s (x.den ρ σ) f) (v.den ρ σ) ∧ ∀ m, x.inside m = true → v.inside m = true := by
  unfold evFieldR at h
  split at h
  · simp only [Option.bind_eq_bind, Option.bind_eq_some_iff] at h
    obtain ⟨d, hd, h⟩ := h
    split at h
    · simp only [Option.bind_eq_some_iff, Option.ite_none_right_eq_some, Option.some.injEq] at h
      obtain ⟨fd, hf, ti, hi, hz, rfl⟩ := h
      refine ⟨fun w => ?_, fun m hm => hm⟩
      simp [SV.den, Instr.fieldAt, run_underlying hd, hf, Instr.sureAddr, fieldPlace, run_sizeOf hi w, hz, addr_add, Nat.add_assoc]
    · cases h
  · cases h
end Go.Proofs.Ytafnplkablkepaa.Ev

/-! The symbolic machine's composite values, slices and builtins. -/
namespace Go.Proofs.Ytafnplkablkepaa.Ev
set_option linter.unusedSimpArgs false
open Go Go.RowKit
set_option linter.unusedVariables false
variable {P : Program} {ρ : Env} {Γ : Facts}
variable {ds : List Deferred}

theorem run_mapM_list {α β : Type} {f : α → Sem β} {g : α → β} : ∀ (l : List α), (∀ x ∈ l, Runs P (f x) (g x)) → Runs P (l.mapM f) (l.map g)
  | [], _ => fun w => by simp
  | x :: l, h => fun w => by
    have h1 := h x (by simp) w
    have h2 := run_mapM_list l (fun y hy => h y (by simp [hy])) w
    simp [List.mapM_cons, h1, h2]
theorem run_mapM_array {α β : Type} {f : α → Sem β} {g : α → β} (xs : Array α) (h : ∀ x ∈ xs.toList, Runs P (f x) (g x)) : Runs P (xs.mapM f) (xs.map g) := by
  obtain ⟨l⟩ := xs
  intro w
  have := run_mapM_list (P := P) l h w
  simp [List.mapM_toArray, this]

def embedZ (P : Program) (t : TypeId) : Option (List SV) := do
  let i ← P.info? t
  let z ← i.zero
  z.cells.toList.mapM (ofVal 64)
theorem embedZ_ok {t : TypeId} {cs : List SV} (h : embedZ P t = some cs) (σ : Sg) : ∃ z : Value, Runs P (zeroValue t) z ∧ z.cells = (denL ρ σ cs).toArray ∧ ∀ n, insideL n cs = true := by
  unfold embedZ at h
  simp only [Option.bind_eq_bind, Option.bind_eq_some_iff] at h
  obtain ⟨i, hi, z, hz, h⟩ := h
  obtain ⟨e, s⟩ := ofValL_den (ρ := ρ) (σ := σ) 64 _ _ h
  exact ⟨z, run_zeroValue hi hz, by rw [e], s⟩

def evParts (T : List SV) : List (Nat × Operand) → Option (List (Nat × SV))
  | [] => some []
  | (i, x) :: l => match evO T x, evParts T l with
    | some v, some r => some ((i, v) :: r)
    | _, _ => none
theorem evParts_den {σ : Sg} {n : Nat} {T : List SV} {a : Act} (h : TRel ds ρ σ n T a) : ∀ {l : List (Nat × Operand)} {r : List (Nat × SV)}, evParts T l = some r →
    l.map (fun p => (p.1, a.eval p.2)) = r.map (fun p => (p.1, p.2.den ρ σ)) ∧ (∀ p ∈ r, p.2.inside n = true) ∧ ∀ p ∈ r, p.2.isAny = false
  | [], r, hx => by cases hx; exact ⟨rfl, (fun _ h => by cases h), fun _ h => by cases h⟩
  | (i, x) :: l, r, hx => by
    simp only [evParts] at hx
    split at hx
    · rename_i v r' h1 h2
      cases hx
      obtain ⟨e1, s1⟩ := evO_den h h1
      obtain ⟨e2, s2, n2⟩ := evParts_den h h2
      refine ⟨by simp [e1, e2], fun p hp => ?_, fun p hp => ?_⟩
      · rcases List.mem_cons.1 hp with rfl | hp
        · exact s1
        · exact s2 p hp
      · rcases List.mem_cons.1 hp with rfl | hp
        · exact evO_any h1
        · exact n2 p hp
    · cases hx

def evBuild (P : Program) (t : TypeId) (parts : List (Nat × SV)) : Option (List SV) := do
  let cs ← embedZ P t
  let d ← P.underlying t
  match d with
  | .struct fs => if fs.toList.all (fun f => (P.info? f.type).isSome) = true then fillS (fun i => (fs[i]?).map fun f => (f.offset, P.cellsOf f.type)) cs parts else none
  | .array _ e => do
    let i ← P.info? e
    fillS (fun j => some (j * i.size, i.size)) cs parts
  | _ => none
theorem build_ok {σ : Sg} {t : TypeId} {parts : List (Nat × SV)} {r : List SV} (hany : ∀ p ∈ parts, p.2.isAny = false) (h : evBuild P t parts = some r) {ps : Array (Nat × Value)} (hp : ps.toList = parts.map fun p => (p.1, p.2.den ρ σ)) :
    Runs P (Instr.build t ps) (.agg (denL ρ σ r).toArray) ∧ ∀ n, (∀ p ∈ parts, p.2.inside n = true) → insideL n r = true := by
  unfold evBuild at h
  simp only [Option.bind_eq_bind, Option.bind_eq_some_iff] at h
  obtain ⟨cs, hcs, d, hd, h⟩ := h
  obtain ⟨z, hz, hzc, hin⟩ := embedZ_ok (ρ := ρ) hcs σ
  split at h
  · rename_i fs
    simp only [Option.ite_none_right_eq_some] at h
    obtain ⟨hall, h⟩ := h
    obtain ⟨e, s⟩ := fill_ok (ρ := ρ) (σ := σ) h hany
    refine ⟨fun w => ?_, fun n hn => s n (hin n) hn⟩
    have hm : Runs P (fs.mapM fun f => do pure (f.offset, ← sizeOf f.type)) (fs.map fun f => (f.offset, P.cellsOf f.type)) := by
      refine run_mapM_array fs fun f hf w => ?_
      have := List.all_eq_true.1 hall f hf
      obtain ⟨i, hi⟩ := Option.isSome_iff_exists.1 this
      simp [run_sizeOf hi w, Program.cellsOf, hi]
    have hpl : (fun (i : Nat) => (fs.map fun (f : Field) => (f.offset, P.cellsOf f.type))[i]?) = (fun i => (fs[i]?).map fun (f : Field) => (f.offset, P.cellsOf f.type)) := by
      funext i; simp
    simp only [Instr.build, Sem.run_bind, hz w, Result.andThen_ok, run_underlying hd, hm w, hzc, hpl, hp, e, Sem.run_pure]
  · simp only [Option.bind_eq_some_iff] at h
    obtain ⟨i, hi, h⟩ := h
    obtain ⟨e, s⟩ := fill_ok (ρ := ρ) (σ := σ) h hany
    refine ⟨fun w => ?_, fun n hn => s n (hin n) hn⟩
    simp only [Instr.build, Sem.run_bind, hz w, Result.andThen_ok, run_underlying hd, run_sizeOf hi w, hzc, hp, e, Sem.run_pure]
  · cases h

theorem map_range0 {α : Type} (f : Nat → α) : (Array.range 0).map f = #[] := by simp
/-- The cells of so many zero elements. -/
def zerosL (P : Program) (e : TypeId) (n : Nat) : Option (List SV) := do
  let i ← P.info? e
  if n = 0 then some [] else do
    let z ← i.zero
    ((Array.range n).map (z.cells[· % z.cells.size]!)).toList.mapM (ofVal 64)
theorem zerosL_ok {e : TypeId} {n : Nat} {cs : List SV} (h : zerosL P e n = some cs) (σ : Sg) :
    ((n = 0 ∧ cs = []) ∨ (n ≠ 0 ∧ ∃ z : Value, Runs P (zeroValue e) z ∧ (Array.range n).map (z.cells[· % z.cells.size]!) = (denL ρ σ cs).toArray)) ∧ ∀ m, insideL m cs = true := by
  unfold zerosL at h
  simp only [Option.bind_eq_bind, Option.bind_eq_some_iff] at h
  obtain ⟨i, hi, h⟩ := h
  split at h
  · rename_i hn
    cases h
    exact ⟨.inl ⟨hn, rfl⟩, fun _ => rfl⟩
  · rename_i hn
    simp only [Option.bind_eq_some_iff] at h
    obtain ⟨z, hz, h⟩ := h
    obtain ⟨e', s⟩ := ofValL_den (ρ := ρ) (σ := σ) 64 _ _ h
    refine ⟨.inr ⟨hn, z, run_zeroValue hi hz, ?_⟩, s⟩
    rw [e', Array.toArray_toList]

def evBuildSlice (P : Program) (t : TypeId) (len : Nat) (parts : List (Nat × SV)) : Option (TypeId × List SV) := do
  let d ← P.underlying t
  match d with
  | .slice e => do
    let i ← P.info? e
    if len * i.size ≤ 2 ^ 24 then do
      let cs ← zerosL P e (len * i.size)
      let r ← fillS (fun j => some (j * i.size, i.size)) cs parts
      some (e, r)
    else none
  | _ => none
theorem buildSlice_ok {σ : Sg} {H : Hp} {w : World} (hr : HRel P ρ σ H w) {t e : TypeId} {len : Nat} {parts : List (Nat × SV)} {r : List SV} (hany : ∀ p ∈ parts, p.2.isAny = false) (h : evBuildSlice P t len parts = some (e, r)) {ps : Array (Nat × Value)}
    (hp : ps.toList = parts.map fun p => (p.1, p.2.den ρ σ)) (hin : ∀ p ∈ parts, p.2.inside H.length = true) :
    ∃ σ' w', (Instr.buildSlice t len ps).run P w = .ok (.slice (some ⟨σ'.blk H.length, 0, none⟩) len len) w' ∧ Post P ρ σ σ' H (H ++ [some ⟨r, e, false, false, none⟩]) [] w w' := by
  unfold evBuildSlice at h
  simp only [Option.bind_eq_bind, Option.bind_eq_some_iff] at h
  obtain ⟨d, hd, h⟩ := h
  split at h
  · simp only [Option.bind_eq_some_iff, Option.ite_none_right_eq_some, Option.some.injEq, Prod.mk.injEq] at h
    obtain ⟨i, hi, hle, cs, hcs, r', hf, rfl, rfl⟩ := h
    obtain ⟨hz0, hz'⟩ := zerosL_ok (ρ := ρ) hcs σ
    obtain ⟨ef, s⟩ := fill_ok (ρ := ρ) (σ := σ) hf hany
    obtain ⟨σ', w', hrun, hpost⟩ := newRow_ok hr _ (s H.length (hz' _) hin)
    refine ⟨σ', w', ?_, hpost⟩
    simp only [Instr.buildSlice, Sem.run_bind, run_underlying hd, Result.andThen_ok, run_sizeOf hi w]
    rw [if_neg (by omega)]
    rcases hz0 with ⟨hn, rfl⟩ | ⟨hn, z, hz, hc⟩
    · rw [if_pos hn]
      simp only [Sem.run_pure, Result.andThen_ok, Sem.run_bind, hn, map_range0, hp]
      simp only [denL] at ef
      simp only [ef, Sem.run_bind, hrun, Result.andThen_ok, Sem.run_pure]
    · rw [if_neg hn]
      simp only [Sem.run_pure, Result.andThen_ok, Sem.run_bind, hz w, hc, hp, ef, hrun]
  · cases h

def evMakeSlice (P : Program) (t : TypeId) (l c : SV) : Option (TypeId × List SV × Nat × Nat) := do
  let d ← P.underlying t
  let n ← litI l
  let m ← litI c
  match d with
  | .slice e => do
    let i ← P.info? e
    if 0 ≤ IntKind.i64.wrap n ∧ IntKind.i64.wrap n ≤ IntKind.i64.wrap m ∧ (i.bytes : Int) * IntKind.i64.wrap m ≤ 2 ^ 48 then do
      let cs ← zerosL P e ((IntKind.i64.wrap m).toNat * i.size)
      some (e, cs, (IntKind.i64.wrap n).toNat, (IntKind.i64.wrap m).toNat)
    else none
  | _ => none
theorem makeSlice_ok {σ : Sg} {H : Hp} {w : World} (hr : HRel P ρ σ H w) {t e : TypeId} {l c : SV} {r : List SV} {n m : Nat} (h : evMakeSlice P t l c = some (e, r, n, m)) :
    ∃ σ' w', (Instr.makeSlice t (l.den ρ σ) (c.den ρ σ)).run P w = .ok (.slice (some ⟨σ'.blk H.length, 0, none⟩) n m) w' ∧ Post P ρ σ σ' H (H ++ [some ⟨r, e, false, false, none⟩]) [] w w' := by
  unfold evMakeSlice at h
  simp only [Option.bind_eq_bind, Option.bind_eq_some_iff] at h
  obtain ⟨d, hd, n', hn, m', hm, h⟩ := h
  obtain ⟨k, hk⟩ := litI_den (ρ := ρ) hn σ
  obtain ⟨k', hk'⟩ := litI_den (ρ := ρ) hm σ
  split at h
  · simp only [Option.bind_eq_some_iff, Option.ite_none_right_eq_some, Option.some.injEq, Prod.mk.injEq] at h
    obtain ⟨i, hi, ⟨h0, h1, h2⟩, cs, hcs, rfl, rfl, rfl, rfl⟩ := h
    obtain ⟨hz0, hz'⟩ := zerosL_ok (ρ := ρ) hcs σ
    obtain ⟨σ', w', hrun, hpost⟩ := newRow_ok hr _ (hz' H.length)
    refine ⟨σ', w', ?_, hpost⟩
    have g : (decide (IntKind.i64.wrap m' < 0) || decide ((i.bytes : Int) * IntKind.i64.wrap m' > 2 ^ 48)) = false := by simp; omega
    simp only [Instr.makeSlice, hk, hk', asInt, asIntOf, Sem.run_bind, run_underlying hd, Result.andThen_ok, Sem.run_pure, typeInfo, run_program, hi, g, Bool.false_or]
    rw [if_neg (by simp; omega)]
    rcases hz0 with ⟨hn, rfl⟩ | ⟨hn, z, hz, hc⟩
    · simp only [Sem.run_pure, Result.andThen_ok, Sem.run_bind, run_askRoom, run_sizeOf hi w]
      rw [if_pos hn]
      simp only [denL] at hrun
      simp only [Sem.run_pure, Result.andThen_ok, Sem.run_bind, hn, map_range0, hrun]
    · simp only [Sem.run_pure, Result.andThen_ok, Sem.run_bind, run_askRoom, run_sizeOf hi w]
      rw [if_neg hn]
      simp only [Sem.run_pure, Result.andThen_ok, Sem.run_bind, hz w, hc, hrun]
  · cases h

def evBound (x : Option SV) (dflt y : Nat) : Option Nat := match x with
  | none => some dflt
  | some v => do
    let i ← litI v
    if 0 ≤ i ∧ i ≤ y then some i.toNat else none
theorem bounds_ok {σ : Sg} {isS : Bool} {len cap h l : Nat} {lo hi : Option SV} (hh : evBound hi len cap = some h) (hl : evBound lo 0 h = some l) :
    Runs P (Instr.sliceBounds isS len cap (lo.map (·.den ρ σ)) (hi.map (·.den ρ σ)) none) (l, h, cap) := by
  have b1 : ∀ {x : SV} {i : Int} {y : Nat} {c : BoundsCode}, litI x = some i → 0 ≤ i → i ≤ y → Runs P (Instr.sliceBound (x.den ρ σ) y c) i.toNat := by
    intro x i y c hx h0 h1 w
    obtain ⟨k, hk⟩ := litI_den (ρ := ρ) hx σ
    simp [Instr.sliceBound, hk, asIntOf, h0, h1]
  intro w
  unfold evBound at hh hl
  cases hi with
  | none =>
    cases hh
    cases lo with
    | none => cases hl; simp [Instr.sliceBounds]
    | some v =>
      simp only [Option.bind_eq_bind, Option.bind_eq_some_iff, Option.ite_none_right_eq_some, Option.some.injEq] at hl
      obtain ⟨i, hi, ⟨h0, h1⟩, rfl⟩ := hl
      simp [Instr.sliceBounds, b1 hi h0 h1 w]
  | some u =>
    simp only [Option.bind_eq_bind, Option.bind_eq_some_iff, Option.ite_none_right_eq_some, Option.some.injEq] at hh
    obtain ⟨i, hi, ⟨h0, h1⟩, rfl⟩ := hh
    cases lo with
    | none => cases hl; simp [Instr.sliceBounds, b1 hi h0 h1 w]
    | some v =>
      simp only [Option.bind_eq_bind, Option.bind_eq_some_iff, Option.ite_none_right_eq_some, Option.some.injEq] at hl
      obtain ⟨j, hj, ⟨g0, g1⟩, rfl⟩ := hl
      simp [Instr.sliceBounds, b1 hi h0 h1 w, b1 hj g0 g1 w]

def evSlice (P : Program) (t : TypeId) (x : SV) (lo hi : Option SV) : Option SV := do
  let d ← P.underlying t
  match d, x with
  | .array n e, .ptr (some a) => do
    let i ← P.info? e
    let h ← evBound hi n n
    let l ← evBound lo 0 h
    if a.spot = none then some (.slice (some ⟨a.block, if n = l then a.off else a.off + l * i.size, none⟩) (h - l) (n - l)) else none
  | .slice e, .slice (some a) len cap => do
    let i ← P.info? e
    let h ← evBound hi len cap
    let l ← evBound lo 0 h
    if a.spot = none then some (.slice (some ⟨a.block, if cap = l then a.off else a.off + l * i.size, none⟩) (h - l) (cap - l)) else none
  | .slice e, .slice none len cap => do
    let i ← P.info? e
    let h ← evBound hi len cap
    let l ← evBound lo 0 h
    some (.slice none (h - l) (cap - l))
  | .string, .str s => do
    let h ← evBound hi s.size s.size
    let l ← evBound lo 0 h
    some (.str (s.extract l h))
  | _, _ => none
theorem slice_ok {σ : Sg} {t : TypeId} {x v : SV} {lo hi : Option SV} (h : evSlice P t x lo hi = some v) :
    Runs P (Instr.sliceAt t (x.den ρ σ) (lo.map (·.den ρ σ)) (hi.map (·.den ρ σ)) none) (v.den ρ σ) ∧ ∀ m, x.inside m = true → v.inside m = true := by
  unfold evSlice at h
  simp only [Option.bind_eq_bind, Option.bind_eq_some_iff] at h
  obtain ⟨d, hd, h⟩ := h
  split at h
  · simp only [Option.bind_eq_some_iff, Option.ite_none_right_eq_some, Option.some.injEq] at h
    obtain ⟨i, hi', h', hh, l, hl, hs, rfl⟩ := h
    have hb := bounds_ok (P := P) (ρ := ρ) (σ := σ) (isS := false) hh hl
    refine ⟨fun w => ?_, fun m hm => hm⟩
    simp only [SV.den, Option.map_some]
    rw [addr_none hs, addr_none rfl]
    simp only [Instr.sliceAt, Sem.run_bind, run_underlying hd, Result.andThen_ok, Instr.sureAddr, Sem.run_pure, hb w, run_sizeOf hi' w, addr_add]
    split <;> simp [*]
  · simp only [Option.bind_eq_some_iff, Option.ite_none_right_eq_some, Option.some.injEq] at h
    obtain ⟨i, hi', h', hh, l, hl, hs, rfl⟩ := h
    have hb := bounds_ok (P := P) (ρ := ρ) (σ := σ) (isS := true) hh hl
    refine ⟨fun w => ?_, fun m hm => hm⟩
    simp only [SV.den, Option.map_some]
    rw [addr_none hs, addr_none rfl]
    simp only [Instr.sliceAt, Instr.slice, Sem.run_bind, run_underlying hd, Result.andThen_ok, Instr.sureAddr, Sem.run_pure, hb w, run_sizeOf hi' w, addr_add, Option.map_some]
    split <;> simp [*]
  · simp only [Option.bind_eq_some_iff, Option.some.injEq] at h
    obtain ⟨i, hi', h', hh, l, hl, rfl⟩ := h
    have hb := bounds_ok (P := P) (ρ := ρ) (σ := σ) (isS := true) hh hl
    refine ⟨fun w => ?_, fun m hm => rfl⟩
    simp only [SV.den, Option.map_none]
    simp only [Instr.sliceAt, Instr.slice, Sem.run_bind, run_underlying hd, Result.andThen_ok, Instr.sureAddr, Sem.run_pure, hb w, run_sizeOf hi' w, Option.map_none, ite_self]
  · simp only [Option.bind_eq_some_iff, Option.some.injEq] at h
    obtain ⟨h', hh, l, hl, rfl⟩ := h
    have hb := bounds_ok (P := P) (ρ := ρ) (σ := σ) (isS := false) hh hl
    refine ⟨fun w => ?_, fun m hm => rfl⟩
    simp only [SV.den]
    simp only [Instr.sliceAt, Instr.slice, Sem.run_bind, run_underlying hd, Result.andThen_ok, Sem.run_pure, hb w, Option.isSome_none, Bool.false_eq_true, if_false]
  · cases h
end Go.Proofs.Ytafnplkablkepaa.Ev

/-! The symbolic machine's builtins. -/
namespace Go.Proofs.Ytafnplkablkepaa.Ev
set_option linter.unusedSimpArgs false
open Go Go.RowKit
set_option linter.unusedVariables false
variable {P : Program} {ρ : Env} {Γ : Facts}

abbrev Out := SV × Hp × List Nat
/-- What an operation may leave. -/
def Good (P : Program) (ρ : Env) (σ : Sg) (H : Hp) (r : Out) (w : World) (u : Value) (w' : World) : Prop :=
  ∃ σ', Post P ρ σ σ' H r.2.1 r.2.2 w w' ∧ u = r.1.den ρ σ' ∧ r.1.inside r.2.1.length = true

theorem good_same {σ : Sg} {H : Hp} {w : World} {v : SV} (hr : HRel P ρ σ H w) (hv : v.inside H.length = true) : Good P ρ σ H (v, H, []) w (v.den ρ σ) w := ⟨σ, Post.refl hr, rfl, hv⟩

/-- So many cells from there. -/
def evCells (H : Hp) (a : Addr) (c : Nat) : Option (List SV) := if a.spot = none then do
  let x ← getC H a.block
  if a.off + c ≤ x.cells.length then some ((x.cells.drop a.off).take c) else none
  else none
theorem cells_ok {σ : Sg} {H : Hp} {w : World} (hr : HRel P ρ σ H w) {a : Addr} {c : Nat} {cs : List SV} (h : evCells H a c = some cs) :
    (loadCells (σ.addr a) c).run P w = .ok (denL ρ σ cs).toArray w ∧ insideL H.length cs = true ∧ cs.length = c := by
  unfold evCells at h
  simp only [Option.bind_eq_bind, Option.bind_eq_some_iff, Option.ite_none_right_eq_some, Option.some.injEq] at h
  obtain ⟨hs, x, hx, hle, rfl⟩ := h
  obtain ⟨hin, rest, _, hb, _⟩ := hr.conR hx
  rw [addr_none hs]
  have hlen : (denL ρ σ ((x.cells.drop a.off).take c)).length = c := by simp [denL_length]; omega
  refine ⟨?_, insideL_of fun v hv => insideL_mem hin (List.mem_of_mem_drop (List.mem_of_mem_take hv)), by simp; omega⟩
  have hl := run_loadCells_list (P := P) w ⟨σ.blk a.block, a.off, none⟩ (denL ρ σ ((x.cells.drop a.off).take c)) (fun j v hv => by
    rw [addr_add, cell_of hb]
    rw [denL_map] at hv ⊢
    rw [List.getElem?_append_left]
    · rw [List.map_take, List.getElem?_take] at hv
      split at hv
      · rw [List.map_drop, List.getElem?_drop] at hv; exact hv
      · cases hv
    · rw [List.map_take, List.getElem?_take] at hv
      split at hv
      · simp; omega
      · cases hv)
  rw [hlen] at hl
  exact hl

def evFirst (H : Hp) (x : SV) (c : Nat) : Option (List SV) := match x with
  | .slice none _ _ => if c = 0 then some [] else none
  | .slice (some a) _ _ => evCells H a c
  | .vec b _ => evCells H ⟨b, 0, none⟩ c
  | _ => none
theorem first_ok {σ : Sg} {H : Hp} {w : World} (hr : HRel P ρ σ H w) {x : SV} {n size : Nat} {cs : List SV} (h : evFirst H x (n * size) = some cs) :
    (Builtin.firstCells size n (x.den ρ σ)).run P w = .ok (denL ρ σ cs).toArray w ∧ insideL H.length cs = true ∧ cs.length = n * size := by
  unfold evFirst at h
  split at h
  · split at h
    · rename_i hc; cases h; exact ⟨by simp [SV.den, Builtin.firstCells, denL], rfl, by simp [hc]⟩
    · cases h
  · simp only [SV.den, Option.map_some, Builtin.firstCells]; exact cells_ok hr h
  · have := cells_ok hr h
    rw [addr_none rfl] at this
    simp only [SV.den, Builtin.firstCells]; exact this
  · cases h

def evLen : SV → Option Nat
  | .slice _ n _ => some n
  | .vec _ n => some n
  | .vsl _ _ _ n => some n
  | .str s => some s.size
  | _ => none
theorem lenOf_ok {x : SV} {n : Nat} (h : evLen x = some n) (σ : Sg) : Runs P (Builtin.lenOf (x.den ρ σ)) n := by
  unfold evLen at h
  split at h <;> cases h <;> intro w <;> simp [SV.den, Builtin.lenOf]

theorem growBy_le (n : Nat) : ∀ (r c : Nat), c ≤ 2 * n → Builtin.growBy n r c ≤ 2 * n + 1000
  | 0, c, h => by simp [Builtin.growBy]; omega
  | r + 1, c, h => by
    unfold Builtin.growBy
    split
    · omega
    · rename_i hc
      by_cases h2 : c + (c + 768) / 4 ≤ 2 * n
      · exact growBy_le n r _ h2
      · cases r with
        | zero => simp [Builtin.growBy]; omega
        | succ r => unfold Builtin.growBy; rw [if_pos (by omega)]; omega
theorem nextcap_le {n c : Nat} (h : c < n) : Builtin.nextslicecap n c ≤ 2 * n + 1000 := by
  unfold Builtin.nextslicecap
  split
  · omega
  · split
    · omega
    · exact growBy_le n 4 c (by omega)

def isSliceD : TypeDesc → Bool
  | .slice _ => true
  | _ => false
def appOk (P : Program) (e : TypeId) (i : TypeInfo) (len n : Nat) : Bool :=
  decide ((2 * (len + n) + 1000) * i.bytes ≤ 2 ^ 48) && (decide (len + n ≤ 2 ^ 60) && (match embedZ P e with | some z => decide (z.length = i.size) | none => false))

def evAppV (P : Program) (e : TypeId) (i : TypeInfo) (b len n : Nat) (new : List SV) (H : Hp) : Option Out :=
  match getC H b with
  | some y => if y.opn = true ∧ y.ro = false ∧ y.elem = e ∧ 0 < i.size ∧ y.cells.length = len * i.size ∧ appOk P e i len n = true then some (.vec H.length (len + n), H.set b none ++ [some ⟨y.cells ++ new, e, false, true, none⟩], [b]) else none
  | none => none
def evAppS (P : Program) (e : TypeId) (i : TypeInfo) (base : Option Addr) (len cap n : Nat) (new : List SV) (H : Hp) : Option Out :=
  if len + n ≤ cap then
    match base with
    | none => some (.slice none (len + n) cap, H, [])
    | some a => match getC H a.block with
      | some y => if a.spot = none ∧ y.ro = false ∧ a.off + len * i.size + new.length ≤ y.cells.length then some (.slice (some a) (len + n) cap, H.set a.block (some { y with cells := setL y.cells (a.off + len * i.size) new }), [a.block]) else none
      | none => none
  else match evFirst H (.slice base len cap) (len * i.size) with
    | some old => if appOk P e i len n = true then some (.vec H.length (len + n), H ++ [some ⟨old ++ new, e, false, true, none⟩], []) else none
    | none => none
def evAppE (P : Program) (e : TypeId) (s x : SV) (H : Hp) : Option Out := do
  let i ← P.info? e
  let n ← evLen x
  let new ← evFirst H x (n * i.size)
  if new.all SV.isCell = true then (match s with
    | .vec b len => evAppV P e i b len n new H
    | .slice base len cap => evAppS P e i base len cap n new H
    | _ => none) else none
def evAppend (P : Program) (ts : Array TypeId) (args : List SV) (H : Hp) : Option Out := do
  let t ← ts[0]?
  let t1 ← ts[1]?
  let d ← P.underlying t
  let d1 ← P.underlying t1
  if isSliceD d1 = true then (match d, args with
    | .slice e, [s, x] => evAppE P e s x H
    | _, _ => none) else none

theorem appOk_ok {e : TypeId} {i : TypeInfo} {len n : Nat} (h : appOk P e i len n = true) : (2 * (len + n) + 1000) * i.bytes ≤ 2 ^ 48 ∧ len + n ≤ 2 ^ 60 ∧ ∃ z : Value, Runs P (zeroValue e) z ∧ z.cells.size = i.size := by
  unfold appOk at h
  simp only [Bool.and_eq_true, decide_eq_true_eq] at h
  obtain ⟨h1, h2, h3⟩ := h
  split at h3
  · rename_i z hz
    obtain ⟨v, hv, hc, _⟩ := embedZ_ok (ρ := ⟨fun _ => 0, fun _ => false, fun _ => .empty, fun _ => .nilFunc, fun _ _ => 0⟩) hz σ0
    exact ⟨h1, h2, v, hv, by rw [hc]; simp [denL_length]; exact of_decide_eq_true h3⟩
  · cases h3

/-- The part of an append that makes a new array. -/
theorem append_grow {σ : Sg} {H : Hp} {w : World} (hr : HRel P ρ σ H w) {ts : Array TypeId} {t t1 e e1 : TypeId} {i : TypeInfo} {s x : SV} {len cap n : Nat} {base : Option Addr} {old new : List SV} {rt : TypeId}
    (ht : ts[0]? = some t) (ht1 : ts[1]? = some t1) (hd : P.underlying t = some (.slice e)) (hd1 : P.underlying t1 = some (.slice e1)) (hi : P.info? e = some i)
    (hs : s.den ρ σ = .slice base len cap) (hn : evLen x = some n) (hnew : evFirst H x (n * i.size) = some new) (hold : evFirst H s (len * i.size) = some old) (hok : appOk P e i len n = true) (hcap : cap < len + n) :
    ∃ (c : Nat) (rest : List Value), (Builtin.append_ ts rt #[s.den ρ σ, x.den ρ σ]).run P w = .ok (.slice (some ⟨w.heap.size, 0, none⟩) (len + n) c) { w.drew with heap := w.heap.push (.cells (denL ρ σ (old ++ new) ++ rest).toArray e (0, 0)) } ∧
      (old ++ new).length + rest.length = c * P.cellsOf e := by
  obtain ⟨hb, hl, z, hz, hzs⟩ := appOk_ok hok
  obtain ⟨hfo, _, hlo⟩ := first_ok (P := P) hr.drew hold
  obtain ⟨hfn, _, hln⟩ := first_ok (P := P) hr.drew hnew
  refine ⟨len + n + w.tape w.drawn (.appendCap (len + n) cap e) % (2 ^ 63 - (len + n)), (Builtin.zeroCells z.cells (w.tape w.drawn (.appendCap (len + n) cap e) % (2 ^ 63 - (len + n)))).toList, ?_, ?_⟩
  · have hcap2 : Builtin.nextslicecap (len + n) cap * i.bytes ≤ 2 ^ 48 := Nat.le_trans (Nat.mul_le_mul_right _ (nextcap_le hcap)) hb
    have g1 : ¬ (len + n ≤ cap) := by omega
    have g2 : ¬ (281474976710656 < Builtin.nextslicecap (len + n) cap * i.bytes) := by omega
    have hlx := lenOf_ok (P := P) (ρ := ρ) hn σ w
    have g3 : ¬ (9223372036854775807 < ((len : Int) + (n : Int))) := by omega
    have hq : (Question.appendCap (len + n) cap e).forced = false := rfl
    rw [hs] at hfo ⊢
    simp [Builtin.append_, ht, ht1, run_underlying hd, run_underlying hd1, sizeOf, typeInfo, hi, hlx, g1, g2, g3, hq, Question.cut, hfo, hfn]
    rw [hz w.drew]
    simp [newRow, newObj, Sem.run, denL_append]
    have ez : ∀ (a b : List Value) (Z : Array Value), a.toArray ++ (b.toArray ++ Z) = (a ++ (b ++ Z.toList)).toArray := fun a b Z => by apply Array.ext'; simp
    rw [ez]; rfl
  · simp [hlo, hln, Builtin.zeroCells, Program.cellsOf, hi, hzs, Nat.add_mul]
/-- The part of an append that has room. -/
theorem append_room {σ : Sg} {H : Hp} {w : World} (hr : HRel P ρ σ H w) {ts : Array TypeId} {t t1 e e1 : TypeId} {i : TypeInfo} {s x : SV} {len cap n k off : Nat} {new : List SV} {rt : TypeId} {L : List Value} {te : TypeId}
    (ht : ts[0]? = some t) (ht1 : ts[1]? = some t1) (hd : P.underlying t = some (.slice e)) (hd1 : P.underlying t1 = some (.slice e1)) (hi : P.info? e = some i)
    (hs : s.den ρ σ = .slice (some ⟨k, off, none⟩) len cap) (hn : evLen x = some n) (hnew : evFirst H x (n * i.size) = some new) (hall : new.all SV.isCell = true) (hcap : len + n ≤ cap)
    (hk : w.heap[k]? = some (.cells L.toArray te (0, 0))) (hL : off + len * i.size + new.length ≤ L.length) :
    ∃ w', (Builtin.append_ ts rt #[s.den ρ σ, x.den ρ σ]).run P w = .ok (.slice (some ⟨k, off, none⟩) (len + n) cap) w' ∧ Upd w w' k (.cells (setL L (off + len * i.size) (denL ρ σ new)).toArray te (0, 0)) := by
  obtain ⟨hfn, _, hln⟩ := first_ok (P := P) hr hnew
  have hlx := lenOf_ok (P := P) (ρ := ρ) hn σ w
  obtain ⟨w', hrun, hu⟩ := run_storeCells (P := P) (t := te) (k := k) (off := off + len * i.size) (denL ρ σ new) 0 L w (fun u hu => by
    rw [denL_map] at hu
    obtain ⟨y, hy, rfl⟩ := List.mem_map.1 hu
    exact SV.isCell_den (List.all_eq_true.1 hall y hy)) hk (by simp [denL_length]; omega)
  refine ⟨w', ?_, by simpa using hu⟩
  rw [hs]
  simp [Builtin.append_, ht, ht1, run_underlying hd, run_underlying hd1, sizeOf, typeInfo, hi, hlx, hcap, hfn, addr_add, hrun]

theorem append_none {σ : Sg} {H : Hp} {w : World} (hr : HRel P ρ σ H w) {ts : Array TypeId} {t t1 e e1 : TypeId} {i : TypeInfo} {s x : SV} {len cap n : Nat} {new : List SV} {rt : TypeId}
    (ht : ts[0]? = some t) (ht1 : ts[1]? = some t1) (hd : P.underlying t = some (.slice e)) (hd1 : P.underlying t1 = some (.slice e1)) (hi : P.info? e = some i)
    (hs : s.den ρ σ = .slice none len cap) (hn : evLen x = some n) (hnew : evFirst H x (n * i.size) = some new) (hcap : len + n ≤ cap) :
    (Builtin.append_ ts rt #[s.den ρ σ, x.den ρ σ]).run P w = .ok (.slice none (len + n) cap) w := by
  obtain ⟨hfn, _, hln⟩ := first_ok (P := P) hr hnew
  have hlx := lenOf_ok (P := P) (ρ := ρ) hn σ w
  rw [hs]
  simp [Builtin.append_, ht, ht1, run_underlying hd, run_underlying hd1, sizeOf, typeInfo, hi, hlx, hcap, hfn]

theorem evAppend_ok {σ : Sg} {H : Hp} {w : World} (hr : HRel P ρ σ H w) {ts : Array TypeId} {rt : TypeId} {args : List SV} {r : Out} (h : evAppend P ts args H = some r) (hin : insideL H.length args = true) :
    ∃ u w', (Builtin.append_ ts rt (denL ρ σ args).toArray).run P w = .ok u w' ∧ Good P ρ σ H r w u w' := by
  unfold evAppend at h
  simp only [Option.bind_eq_bind, Option.bind_eq_some_iff, Option.ite_none_right_eq_some] at h
  obtain ⟨t, ht, t1, ht1, d, hd, d1, hd1, hs1, h⟩ := h
  obtain ⟨e1, rfl⟩ : ∃ e1, d1 = .slice e1 := by cases d1 <;> simp [isSliceD] at hs1; exact ⟨_, rfl⟩
  split at h
  · rename_i e s x
    unfold evAppE at h
    simp only [Option.bind_eq_bind, Option.bind_eq_some_iff, Option.ite_none_right_eq_some] at h
    obtain ⟨i, hi, n, hn, new, hnew, hall, h⟩ := h
    obtain ⟨_, hnin, hnl⟩ := first_ok (P := P) hr hnew
    simp only [insideL, Bool.and_eq_true, and_true] at hin
    simp only [denL]
    split at h
    · rename_i b len
      unfold evAppV at h
      split at h
      · rename_i y hy
        simp only [Option.ite_none_right_eq_some, Option.some.injEq] at h
        obtain ⟨⟨ho, hro, rfl, hsz, hyl, hok⟩, rfl⟩ := h
        have hy' := getC_some hy
        obtain ⟨hyin, rest, hrow, _, hopn⟩ := hr.con hy hro
        have hopn := hopn ho
        have hcs : P.cellsOf y.elem = i.size := by simp [Program.cellsOf, hi]
        rw [hcs] at hopn
        have hlt : b < H.length := (List.getElem?_eq_some_iff.1 hy'.1).1
        by_cases hcap : len + n ≤ σ.cap b
        · have hlen : (denL ρ σ y.cells).length = len * i.size := by rw [denL_length, hyl]
          have hmul : (len + n) * i.size ≤ σ.cap b * i.size := Nat.mul_le_mul_right _ hcap
          rw [Nat.add_mul] at hmul
          obtain ⟨w', hrun, hu⟩ := append_room (rt := rt) hr ht ht1 hd hd1 hi (s := .vec b len) rfl hn hnew hall hcap hrow (by simp [denL_length]; omega)
          refine ⟨_, w', hrun, σ.snoc H.length (σ.blk b) (σ.cap b), ?_, ?_, ?_⟩
          · have e : setL (denL ρ σ y.cells ++ rest) (0 + len * i.size) (denL ρ σ new) = denL ρ σ (y.cells ++ new) ++ rest.drop (n * i.size) := by
              simp only [setL, Nat.zero_add]
              rw [List.take_append_of_le_length (by omega), List.take_of_length_le (by omega), List.drop_append, List.drop_eq_nil_of_le (by omega), denL_append]
              simp [hlen, denL_length, hnl]
            rw [e] at hu
            refine Post.onto hr hy'.1 hy'.2.1 hy'.2.2 hnin hu ?_
            simp [hyl, hnl, hcs]; omega
          · simp [SV.den, Sg.snoc_blk, Sg.snoc_cap]
          · simp [SV.inside]
        · have hold : evFirst H (.vec b len) (len * i.size) = some y.cells := by
            simp [evFirst, evCells, hy, hyl, List.take_of_length_le]
          obtain ⟨c, rest', hrun, hce⟩ := append_grow (rt := rt) hr ht ht1 hd hd1 hi (s := .vec b len) rfl hn hnew hold hok (by omega)
          have hp1 := Post.drop hr hy'.1
          have hp2 := Post.allocO (w := w.drew) hp1.rel.drew (y.cells ++ new) rest' y.elem true c (by
            rw [List.length_set]
            exact insideL_of fun v hv => (List.mem_append.1 hv).elim (insideL_mem hyin) (insideL_mem hnin)) (fun h => by cases h) (fun _ => hce)
          have hp := hp1.trans hp2.drew
          simp only [List.length_set, List.append_nil] at hp
          refine ⟨_, _, hrun, _, hp, ?_, by simp [SV.inside]⟩
          simp [SV.den, Sg.snoc_blk, Sg.snoc_cap]
      · cases h
    · rename_i base len cap
      unfold evAppS at h
      split at h
      · rename_i hcap
        split at h
        · cases h
          exact ⟨_, w, append_none (rt := rt) hr ht ht1 hd hd1 hi (s := .slice none len cap) rfl hn hnew hcap, σ, Post.refl hr, rfl, rfl⟩
        · rename_i a
          split at h
          · rename_i y hy
            simp only [Option.ite_none_right_eq_some, Option.some.injEq] at h
            obtain ⟨⟨hs, hro, hle⟩, rfl⟩ := h
            have hy' := getC_some hy
            obtain ⟨hyin, rest, hrow, _, _⟩ := hr.con hy hro
            have hden : (SV.slice (some a) len cap).den ρ σ = .slice (some ⟨σ.blk a.block, a.off, none⟩) len cap := by
              simp [SV.den, addr_none hs]
            obtain ⟨w', hrun, hu⟩ := append_room (rt := rt) hr ht ht1 hd hd1 hi hden hn hnew hall hcap hrow (by simp [denL_length]; omega)
            refine ⟨_, w', hrun, σ, Post.put hr hy'.1 hy'.2.1 hy'.2.2 hnin hle hrow hu, ?_, ?_⟩
            · simp [SV.den, addr_none hs]
            · have := of_decide_eq_true hin.1
              simp only [SV.inside, List.length_set]; exact decide_eq_true this
          · cases h
      · rename_i hcap
        split at h
        · rename_i old hold
          simp only [Option.ite_none_right_eq_some, Option.some.injEq] at h
          obtain ⟨hok, rfl⟩ := h
          obtain ⟨_, hoin, _⟩ := first_ok (P := P) hr hold
          obtain ⟨c, rest', hrun, hce⟩ := append_grow (rt := rt) hr ht ht1 hd hd1 hi (s := .slice base len cap) rfl hn hnew hold hok (by omega)
          have hp2 := Post.allocO (w := w.drew) hr.drew (old ++ new) rest' e true c (insideL_of fun v hv => (List.mem_append.1 hv).elim (insideL_mem hoin) (insideL_mem hnin)) (fun h => by cases h) (fun _ => hce)
          refine ⟨_, _, hrun, _, hp2.drew, ?_, by simp [SV.inside]⟩
          simp [SV.den, Sg.snoc_blk, Sg.snoc_cap]
        · cases h
    · cases h
  · cases h

/-- All cells of a row. -/
def rowsV (ρ : Env) (A : Abs) (k : Nat) : List Value := (List.range k).flatMap fun j : Nat => cellsV ρ (j : Int) A.sh A.cols
theorem rowsV_len {A : Abs} (hf : fitC A.sh A.cols = true) : ∀ k : Nat, (rowsV ρ A k).length = k * A.sh.length
  | 0 => by simp [rowsV]
  | k + 1 => by
    have := rowsV_len hf k
    unfold rowsV at this ⊢
    rw [List.range_succ, List.flatMap_append, List.length_append, this]
    simp [fitC_len ρ _ _ _ hf, Nat.add_mul]
theorem rowsV_get {A : Abs} (hf : fitC A.sh A.cols = true) : ∀ (k j i : Nat), j < k → i < A.sh.length → (rowsV ρ A k)[j * A.sh.length + i]? = (cellsV ρ j A.sh A.cols)[i]?
  | 0, j, i, h, _ => by omega
  | k + 1, j, i, h, hi => by
    have hl := rowsV_len (ρ := ρ) hf k
    have e : rowsV ρ A (k + 1) = rowsV ρ A k ++ cellsV ρ k A.sh A.cols := by
      unfold rowsV; rw [List.range_succ, List.flatMap_append]; simp
    rw [e]
    by_cases hj : j < k
    · have : (j + 1) * A.sh.length ≤ k * A.sh.length := Nat.mul_le_mul_right _ hj
      rw [Nat.add_mul] at this
      rw [List.getElem?_append_left (by omega)]
      exact rowsV_get hf k j i hj hi
    · have : j = k := by omega
      subst this
      rw [List.getElem?_append_right (by omega), hl]
      congr 1; omega
theorem rowsV_cell {A : Abs} (hf : fitC A.sh A.cols = true) {k q : Nat} {v : Value} (h : (rowsV ρ A k)[q]? = some v) : ∃ j i, j < k ∧ i < A.sh.length ∧ q = j * A.sh.length + i ∧ (cellsV ρ j A.sh A.cols)[i]? = some v := by
  have hq := (List.getElem?_eq_some_iff.1 h).1
  rw [rowsV_len hf] at hq
  have h0 : 0 < A.sh.length := by
    rcases Nat.eq_zero_or_pos A.sh.length with h0 | h0
    · rw [h0] at hq; omega
    · exact h0
  have hd : q / A.sh.length < k := Nat.div_lt_of_lt_mul (by rw [Nat.mul_comm]; exact hq)
  have hm := Nat.mod_lt q h0
  have e : q = q / A.sh.length * A.sh.length + q % A.sh.length := by rw [Nat.mul_comm]; exact (Nat.div_add_mod q _).symm
  refine ⟨_, _, hd, hm, e, ?_⟩
  rw [← rowsV_get hf k _ _ hd hm, ← e]; exact h
theorem rowsV_congr {A B : Abs} (hs : A.sh = B.sh) {k : Nat} (h : ∀ j : Nat, j < k → cellsV ρ j A.sh A.cols = cellsV ρ j B.sh B.cols) : rowsV ρ A k = rowsV ρ B k := by
  unfold rowsV
  induction k with
  | zero => rfl
  | succ k ih => rw [List.range_succ, List.flatMap_append, List.flatMap_append, ih fun j hj => h j (by omega)]; simp [h k (by omega)]
theorem cellsV_cell (j : Int) : ∀ (s : List CK) (l : List NE) (v : Value), v ∈ cellsV ρ j s l → cellV v = true
  | [], l, v, h => by simp [cellsV] at h
  | .int k :: s, [], v, h => by simp [cellsV] at h
  | .float k :: s, [], v, h => by simp [cellsV] at h
  | .complex k :: s, [], v, h => by simp [cellsV] at h
  | .complex k :: s, [_], v, h => by simp [cellsV] at h
  | .bool :: s, [], v, h => by simp [cellsV] at h
  | .str :: s, [], v, h => by simp [cellsV] at h
  | .int k :: s, c :: l, v, h => by simp only [cellsV, List.mem_cons] at h; exact h.elim (fun e => e ▸ rfl) (cellsV_cell j s l v)
  | .float k :: s, c :: l, v, h => by simp only [cellsV, List.mem_cons] at h; exact h.elim (fun e => e ▸ rfl) (cellsV_cell j s l v)
  | .complex k :: s, c :: d :: l, v, h => by simp only [cellsV, List.mem_cons] at h; exact h.elim (fun e => e ▸ rfl) (cellsV_cell j s l v)
  | .bool :: s, c :: l, v, h => by simp only [cellsV, List.mem_cons] at h; exact h.elim (fun e => e ▸ rfl) (cellsV_cell j s l v)
  | .str :: s, c :: l, v, h => by simp only [cellsV, List.mem_cons] at h; exact h.elim (fun e => e ▸ rfl) (cellsV_cell j s l v)
theorem rowsV_allcell {A : Abs} {k : Nat} : ∀ v ∈ rowsV ρ A k, cellV v = true := by
  intro v hv
  unfold rowsV at hv
  obtain ⟨j, _, hv⟩ := List.mem_flatMap.1 hv
  exact cellsV_cell _ _ _ v hv
/-- The cells of a slice that is a row. -/
theorem HRel.firstR {σ : Sg} {H : Hp} {w : World} (hr : HRel P ρ σ H w) {b : Nat} {n : NE} {q : Blk × Abs} (h : rowOf H b n = some q) {size : Nat} (hsz : size = q.2.sh.length) :
    (Builtin.firstCells size (n.den ρ).toNat ((SV.asl b n).den ρ σ)).run P w = .ok (rowsV ρ q.2 (n.den ρ).toNat).toArray w := by
  obtain ⟨h1, h2⟩ := rowOf_some h
  have R := hr.row h1
  obtain ⟨nn, hs⟩ := hr.slice h
  rcases hs with ⟨a, hg, hz, he⟩ | ⟨hg, he⟩
  · rw [he, hz]
    cases a with
    | none => simp [Builtin.firstCells, rowsV]
    | some a => simp [Builtin.firstCells, rowsV, loadCells, loadCellsFrom]
  · rw [he]
    simp only [Builtin.firstCells]
    have hl := run_loadCells_list (P := P) w ⟨σ.blk b, σ.off b, none⟩ (rowsV ρ q.2 (n.den ρ).toNat) (fun m v hv => by
      obtain ⟨j, i, hj, hi, rfl, hcv⟩ := rowsV_cell R.fit hv
      have := R.cell (j := j) (by omega) (by rw [h2]; omega) hi
      simp only [Sg.pl, Int.toNat_natCast] at this
      rw [addr_add, ← Nat.add_assoc, this]; exact hcv)
    rw [rowsV_len R.fit, ← hsz] at hl
    exact hl
theorem HRel.lenR {σ : Sg} {H : Hp} {w : World} (hr : HRel P ρ σ H w) {b : Nat} {n : NE} {q : Blk × Abs} (h : rowOf H b n = some q) : Runs P (Builtin.lenOf ((SV.asl b n).den ρ σ)) (n.den ρ).toNat := by
  obtain ⟨nn, hs⟩ := hr.slice h
  intro w
  rcases hs with ⟨a, hg, hz, he⟩ | ⟨hg, he⟩
  · rw [he, hz]; simp [Builtin.lenOf]
  · rw [he]; simp [Builtin.lenOf]

/-- The part of an append that makes a new array, of values. -/
theorem append_growV {w : World} {ts : Array TypeId} {t t1 e e1 : TypeId} {i : TypeInfo} {len cap n : Nat} {base : Option Addr} {xv : Value} {old new : List Value} {rt : TypeId}
    (ht : ts[0]? = some t) (ht1 : ts[1]? = some t1) (hd : P.underlying t = some (.slice e)) (hd1 : P.underlying t1 = some (.slice e1)) (hi : P.info? e = some i)
    (hlx : Runs P (Builtin.lenOf xv) n) (hfo : (Builtin.firstCells i.size len (.slice base len cap)).run P w.drew = .ok old.toArray w.drew) (hfn : (Builtin.firstCells i.size n xv).run P w.drew = .ok new.toArray w.drew)
    (hlo : old.length = len * i.size) (hln : new.length = n * i.size) {m : Nat} (hok : appOk P e i len m = true) (hm : n ≤ m) (hcap : cap < len + n) :
    ∃ (c : Nat) (rest : List Value), (Builtin.append_ ts rt #[.slice base len cap, xv]).run P w = .ok (.slice (some ⟨w.heap.size, 0, none⟩) (len + n) c) { w.drew with heap := w.heap.push (.cells (old ++ new ++ rest).toArray e (0, 0)) } ∧
      (old ++ new).length + rest.length = c * P.cellsOf e ∧ len + n ≤ c := by
  obtain ⟨hb, hl, z, hz, hzs⟩ := appOk_ok hok
  refine ⟨len + n + w.tape w.drawn (.appendCap (len + n) cap e) % (2 ^ 63 - (len + n)), (Builtin.zeroCells z.cells (w.tape w.drawn (.appendCap (len + n) cap e) % (2 ^ 63 - (len + n)))).toList, ?_, ?_, by omega⟩
  · have hb2 : (2 * (len + n) + 1000) * i.bytes ≤ 2 ^ 48 := Nat.le_trans (Nat.mul_le_mul_right _ (by omega)) hb
    have hcap2 : Builtin.nextslicecap (len + n) cap * i.bytes ≤ 2 ^ 48 := Nat.le_trans (Nat.mul_le_mul_right _ (nextcap_le hcap)) hb2
    have g1 : ¬ (len + n ≤ cap) := by omega
    have g2 : ¬ (281474976710656 < Builtin.nextslicecap (len + n) cap * i.bytes) := by omega
    have g3 : ¬ (9223372036854775807 < ((len : Int) + (n : Int))) := by omega
    have hq : (Question.appendCap (len + n) cap e).forced = false := rfl
    simp [Builtin.append_, ht, ht1, run_underlying hd, run_underlying hd1, sizeOf, typeInfo, hi, hlx w, g1, g2, g3, hq, Question.cut, hfo, hfn]
    rw [hz w.drew]
    simp [newRow, newObj, Sem.run]
    have ez : ∀ (a b : List Value) (Z : Array Value), a.toArray ++ (b.toArray ++ Z) = (a ++ (b ++ Z.toList)).toArray := fun a b Z => by apply Array.ext'; simp
    rw [ez]; rfl
  · simp [hlo, hln, Builtin.zeroCells, Program.cellsOf, hi, hzs, Nat.add_mul]
/-- The part of an append that has room, of values. -/
theorem append_roomV {w : World} {ts : Array TypeId} {t t1 e e1 : TypeId} {i : TypeInfo} {len cap n k off : Nat} {xv : Value} {new : List Value} {rt : TypeId} {L : List Value} {te : TypeId}
    (ht : ts[0]? = some t) (ht1 : ts[1]? = some t1) (hd : P.underlying t = some (.slice e)) (hd1 : P.underlying t1 = some (.slice e1)) (hi : P.info? e = some i)
    (hlx : Runs P (Builtin.lenOf xv) n) (hfn : (Builtin.firstCells i.size n xv).run P w = .ok new.toArray w) (hall : ∀ v ∈ new, cellV v = true) (hcap : len + n ≤ cap)
    (hk : w.heap[k]? = some (.cells L.toArray te (0, 0))) (hL : off + len * i.size + new.length ≤ L.length) :
    ∃ w', (Builtin.append_ ts rt #[.slice (some ⟨k, off, none⟩) len cap, xv]).run P w = .ok (.slice (some ⟨k, off, none⟩) (len + n) cap) w' ∧ Upd w w' k (.cells (setL L (off + len * i.size) new).toArray te (0, 0)) := by
  obtain ⟨w', hrun, hu⟩ := run_storeCells (P := P) (t := te) (k := k) (off := off + len * i.size) new 0 L w hall hk (by omega)
  refine ⟨w', ?_, by simpa using hu⟩
  simp [Builtin.append_, ht, ht1, run_underlying hd, run_underlying hd1, sizeOf, typeInfo, hi, hlx w, hcap, hfn, addr_add, hrun]
/-- An append of nothing. -/
theorem append_zeroV {w : World} {ts : Array TypeId} {t t1 e e1 : TypeId} {i : TypeInfo} {len cap : Nat} {base : Option Addr} {xv : Value} {rt : TypeId}
    (ht : ts[0]? = some t) (ht1 : ts[1]? = some t1) (hd : P.underlying t = some (.slice e)) (hd1 : P.underlying t1 = some (.slice e1)) (hi : P.info? e = some i)
    (hlx : Runs P (Builtin.lenOf xv) 0) (hfn : (Builtin.firstCells i.size 0 xv).run P w = .ok #[] w) (hcap : len ≤ cap) :
    (Builtin.append_ ts rt #[.slice base len cap, xv]).run P w = .ok (.slice base len cap) w := by
  cases base <;> simp [Builtin.append_, ht, ht1, run_underlying hd, run_underlying hd1, sizeOf, typeInfo, hi, hlx w, hcap, hfn, storeCells]

def colEq (ρ : Env) (j j' : Int) : List NE → List NE → Prop
  | [], [] => True
  | a :: l, b :: r => a.aden ρ j = b.aden ρ j' ∧ colEq ρ j j' l r
  | _, _ => False
theorem cellsV_congr {j j' : Int} : ∀ (s : List CK) (l r : List NE), colEq ρ j j' l r → cellsV ρ j s l = cellsV ρ j' s r
  | [], l, r, _ => by simp [cellsV]
  | k :: s, [], [], _ => by cases k <;> simp [cellsV]
  | k :: s, [], _ :: _, h => by cases h
  | k :: s, _ :: _, [], h => by cases h
  | .int k :: s, a :: l, b :: r, h => by simp only [cellsV, h.1, cellsV_congr s l r h.2]
  | .float k :: s, a :: l, b :: r, h => by simp only [cellsV, h.1, cellsV_congr s l r h.2]
  | .bool :: s, a :: l, b :: r, h => by simp only [cellsV, h.1, cellsV_congr s l r h.2]
  | .str :: s, a :: l, b :: r, h => by simp only [cellsV, h.1, cellsV_congr s l r h.2]
  | .complex k :: s, [_], [_], _ => by simp [cellsV]
  | .complex k :: s, [_], _ :: _ :: _, h => by cases h.2
  | .complex k :: s, _ :: _ :: _, [_], h => by cases h.2
  | .complex k :: s, a :: a' :: l, b :: b' :: r, h => by simp only [cellsV, h.1, h.2.1, cellsV_congr s l r h.2.2]
theorem fitC_eq : ∀ (s : List CK) (l r : List NE), fitC s l = true → fitC s r = true → l.length = r.length
  | [], [], [], _, _ => rfl
  | [], _ :: _, _, h, _ => by cases h
  | [], [], _ :: _, _, h => by cases h
  | .int k :: s, a :: l, b :: r, h, g => by simp only [fitC] at h g; simp [fitC_eq s l r h g]
  | .float k :: s, a :: l, b :: r, h, g => by simp only [fitC] at h g; simp [fitC_eq s l r h g]
  | .bool :: s, a :: l, b :: r, h, g => by simp only [fitC] at h g; simp [fitC_eq s l r h g]
  | .str :: s, a :: l, b :: r, h, g => by simp only [fitC] at h g; simp [fitC_eq s l r h g]
  | .complex k :: s, a :: a' :: l, b :: b' :: r, h, g => by simp only [fitC] at h g; simp [fitC_eq s l r h g]
  | .int k :: s, [], _, h, _ => by cases h
  | .float k :: s, [], _, h, _ => by cases h
  | .bool :: s, [], _, h, _ => by cases h
  | .str :: s, [], _, h, _ => by cases h
  | .complex k :: s, [], _, h, _ => by cases h
  | .complex k :: s, [_], _, h, _ => by cases h
  | .int k :: s, _ :: _, [], _, h => by cases h
  | .float k :: s, _ :: _, [], _, h => by cases h
  | .bool :: s, _ :: _, [], _, h => by cases h
  | .str :: s, _ :: _, [], _, h => by cases h
  | .complex k :: s, _ :: _ :: _, [], _, h => by cases h
  | .complex k :: s, _ :: _ :: _, [_], _, h => by cases h
/-- It fits by its length alone. -/
theorem fitC_len2 : ∀ (s : List CK) (l r : List NE), fitC s l = true → r.length = l.length → fitC s r = true
  | [], [], [], _, _ => rfl
  | [], _ :: _, _, h, _ => by cases h
  | [], [], _ :: _, _, h => by simp at h
  | .int k :: s, a :: l, b :: r, h, g => by simp only [fitC] at h ⊢; exact fitC_len2 s l r h (by simpa using g)
  | .float k :: s, a :: l, b :: r, h, g => by simp only [fitC] at h ⊢; exact fitC_len2 s l r h (by simpa using g)
  | .bool :: s, a :: l, b :: r, h, g => by simp only [fitC] at h ⊢; exact fitC_len2 s l r h (by simpa using g)
  | .str :: s, a :: l, b :: r, h, g => by simp only [fitC] at h ⊢; exact fitC_len2 s l r h (by simpa using g)
  | .complex k :: s, a :: a' :: l, b :: b' :: r, h, g => by simp only [fitC] at h ⊢; exact fitC_len2 s l r h (by simpa using g)
  | .int k :: s, [], _, h, _ => by cases h
  | .float k :: s, [], _, h, _ => by cases h
  | .bool :: s, [], _, h, _ => by cases h
  | .str :: s, [], _, h, _ => by cases h
  | .complex k :: s, [], _, h, _ => by cases h
  | .complex k :: s, [_], _, h, _ => by cases h
  | .int k :: s, _ :: _, [], _, h => by simp at h
  | .float k :: s, _ :: _, [], _, h => by simp at h
  | .bool :: s, _ :: _, [], _, h => by simp at h
  | .str :: s, _ :: _, [], _, h => by simp at h
  | .complex k :: s, _ :: _ :: _, [], _, h => by simp at h
  | .complex k :: s, _ :: _ :: _, [_], _, h => by simp at h

/-- One row behind another one. -/
def catC (n : NE) (m : NE) (a b : List NE) : List NE := if n = .lit 0 then b else if m = .lit 1 then a.zipWith (fun x y => .aupd x n (mkSel y (.lit 0))) b else a.zipWith (fun x y => .acat x n y) b
theorem zipCol1 {j : Int} {f : NE → NE → NE} : ∀ (a b : List NE), a.length = b.length → (∀ x y, (f x y).aden ρ j = x.aden ρ j) → colEq ρ j j (a.zipWith f b) a
  | [], [], _, _ => trivial
  | x :: a, y :: b, h, hf => ⟨hf x y, zipCol1 a b (by simpa using h) hf⟩
  | [], _ :: _, h, _ => by simp at h
  | _ :: _, [], h, _ => by simp at h
theorem zipCol2 {j j' : Int} {f : NE → NE → NE} : ∀ (a b : List NE), a.length = b.length → (∀ x y, (f x y).aden ρ j = y.aden ρ j') → colEq ρ j j' (a.zipWith f b) b
  | [], [], _, _ => trivial
  | x :: a, y :: b, h, hf => ⟨hf x y, zipCol2 a b (by simpa using h) hf⟩
  | [], _ :: _, h, _ => by simp at h
  | _ :: _, [], h, _ => by simp at h
theorem catC_len {n m : NE} {a b : List NE} (h : a.length = b.length) : (catC n m a b).length = b.length := by
  unfold catC
  split
  · rfl
  · split <;> simp [h]
theorem catC_old {n m : NE} {a b : List NE} (h : a.length = b.length) {j : Int} (h0 : 0 ≤ j) (hj : j < n.den ρ) (s : List CK) : cellsV ρ j s (catC n m a b) = cellsV ρ j s a := by
  unfold catC
  split
  · rename_i e; subst e; simp only [NE.den] at hj; omega
  · split
    · refine cellsV_congr s _ _ (zipCol1 a b h fun x y => ?_)
      simp only [NE.aden]; rw [if_neg (by omega)]
    · refine cellsV_congr s _ _ (zipCol1 a b h fun x y => ?_)
      simp only [NE.aden]; rw [if_pos hj]
theorem catC_new {n m : NE} {a b : List NE} (h : a.length = b.length) {j : Int} (hj : n.den ρ ≤ j) (hm : j < n.den ρ + m.den ρ) (s : List CK) : cellsV ρ j s (catC n m a b) = cellsV ρ (j - n.den ρ) s b := by
  unfold catC
  split
  · rename_i e; subst e; simp only [NE.den, Int.sub_zero]
  · split
    · rename_i e
      subst e
      simp only [NE.den] at hm
      refine cellsV_congr s _ _ (zipCol2 a b h fun x y => ?_)
      have : j = n.den ρ := by omega
      simp only [NE.aden]; rw [if_pos this, mkSel_den, this]; simp [NE.den]
    · refine cellsV_congr s _ _ (zipCol2 a b h fun x y => ?_)
      simp only [NE.aden]; rw [if_neg (by omega)]
def catA (A B : Abs) : Abs := ⟨mkAddI A.n B.n, A.sh, catC A.n B.n A.cols B.cols⟩
theorem catA_rows {A B : Abs} (hs : A.sh = B.sh) (ha : fitC A.sh A.cols = true) (hb : fitC B.sh B.cols = true) (na : 0 ≤ A.n.den ρ) (nb : 0 ≤ B.n.den ρ) :
    rowsV ρ (catA A B) ((A.n.den ρ).toNat + (B.n.den ρ).toNat) = rowsV ρ A (A.n.den ρ).toNat ++ rowsV ρ B (B.n.den ρ).toNat := by
  have hl : A.cols.length = B.cols.length := fitC_eq A.sh _ _ ha (by rw [hs]; exact hb)
  unfold rowsV
  rw [List.range_add, List.flatMap_append]
  congr 1
  · have key : ∀ k : Nat, k ≤ (A.n.den ρ).toNat → (List.range k).flatMap (fun j : Nat => cellsV ρ j (catA A B).sh (catA A B).cols) = (List.range k).flatMap (fun j : Nat => cellsV ρ j A.sh A.cols) := by
      intro k
      induction k with
      | zero => intro _; rfl
      | succ k ih =>
        intro hk
        rw [List.range_succ, List.flatMap_append, List.flatMap_append, ih (by omega)]
        have h3 := catC_old (ρ := ρ) (m := B.n) (n := A.n) hl (j := (k : Int)) (by omega) (by omega) A.sh
        congr 1
        simp only [List.flatMap_cons, List.flatMap_nil, List.append_nil, catA]
        exact h3
    exact key _ (Nat.le_refl _)
  · rw [List.flatMap_map]
    have key : ∀ k : Nat, k ≤ (B.n.den ρ).toNat → (List.range k).flatMap (fun j : Nat => cellsV ρ (((A.n.den ρ).toNat + j : Nat) : Int) (catA A B).sh (catA A B).cols) = (List.range k).flatMap (fun j : Nat => cellsV ρ j B.sh B.cols) := by
      intro k
      induction k with
      | zero => intro _; rfl
      | succ k ih =>
        intro hk
        rw [List.range_succ, List.flatMap_append, List.flatMap_append, ih (by omega)]
        have := catC_new (m := B.n) (n := A.n) (ρ := ρ) hl (j := (((A.n.den ρ).toNat + k : Nat) : Int)) (by omega) (by omega) A.sh
        have e : (((A.n.den ρ).toNat + k : Nat) : Int) - A.n.den ρ = k := by omega
        rw [e] at this
        congr 1
        simp only [List.flatMap_cons, List.flatMap_nil, List.append_nil, catA]
        rw [this, hs]
    exact key _ (Nat.le_refl _)
theorem catA_fit {A B : Abs} (hs : A.sh = B.sh) (ha : fitC A.sh A.cols = true) (hb : fitC B.sh B.cols = true) : fitC (catA A B).sh (catA A B).cols = true := by
  have hl : A.cols.length = B.cols.length := fitC_eq A.sh _ _ ha (by rw [hs]; exact hb)
  exact fitC_len2 A.sh A.cols _ ha (by simp only [catA]; rw [catC_len hl, hl])

/-- The kinds of a type's cells. -/
def ckOf : SV → Option CK
  | .int k _ => some (.int k)
  | .float k _ => some (.float k)
  | .complex k _ _ => some (.complex k)
  | .bool _ => some .bool
  | .str _ => some .str
  | _ => none
def shOf (P : Program) (e : TypeId) : Option (List CK) := (embedZ P e).bind fun l => l.mapM ckOf
def zeroC : List CK → List NE
  | [] => []
  | .complex _ :: s => .acst (.lit 0) :: .acst (.lit 0) :: zeroC s
  | _ :: s => .acst (.lit 0) :: zeroC s
theorem zeroC_fit : ∀ s : List CK, fitC s (zeroC s) = true
  | [] => rfl
  | .int _ :: s => by simp only [zeroC, fitC]; exact zeroC_fit s
  | .float _ :: s => by simp only [zeroC, fitC]; exact zeroC_fit s
  | .complex _ :: s => by simp only [zeroC, fitC]; exact zeroC_fit s
  | .bool :: s => by simp only [zeroC, fitC]; exact zeroC_fit s
  | .str :: s => by simp only [zeroC, fitC]; exact zeroC_fit s
/-- Elements, told one by one, as a row. -/
def rowOfL (Γ : Facts) (sh : List CK) : Nat → Nat → List SV → List NE → Option (List NE)
  | _, 0, _, l => some l
  | j, k + 1, cs, l => match updC Γ (.lit j) 0 (cs.take sh.length) sh l with
    | some l => rowOfL Γ sh (j + 1) k (cs.drop sh.length) l
    | none => none
theorem rowOfL_ok (hΓ : Γ.Holds P ρ) (σ : Sg) {sh : List CK} : ∀ (k j : Nat) (cs : List SV) (l l' : List NE), rowOfL Γ sh j k cs l = some l' → cs.length = k * sh.length → fitC sh l = true →
    fitC sh l' = true ∧ (∀ i : Int, i < j → cellsV ρ i sh l' = cellsV ρ i sh l) ∧ (List.range k).flatMap (fun i : Nat => cellsV ρ ((j + i : Nat) : Int) sh l') = denL ρ σ cs
  | 0, j, cs, l, l', h, hc, hf => by
    simp only [rowOfL] at h
    cases h
    have : cs = [] := List.eq_nil_of_length_eq_zero (by simpa using hc)
    subst this
    exact ⟨hf, fun _ _ => rfl, rfl⟩
  | k + 1, j, cs, l, l', h, hc, hf => by
    rw [Nat.add_mul] at hc
    simp only [rowOfL] at h
    split at h
    · rename_i l1 h1
      have U := updC_ok hΓ σ 0 _ sh l l1 h1 hf
      obtain ⟨g1, g2, g3⟩ := rowOfL_ok hΓ σ k (j + 1) (cs.drop sh.length) l1 l' h (by simp; omega) U.fit
      refine ⟨g1, fun i hi => ?_, ?_⟩
      · rw [g2 i (by omega), U.other i (by simp only [NE.den]; omega)]
      · rw [List.range_succ_eq_map, List.flatMap_cons, List.flatMap_map]
        have e1 : cellsV ρ ((j + 0 : Nat) : Int) sh l' = denL ρ σ (cs.take sh.length) := by
          rw [g2 _ (by omega)]
          have := U.here
          simp only [NE.den] at this
          rw [show ((j + 0 : Nat) : Int) = (j : Int) by omega, this]
          have hl : (cellsV ρ (j : Int) sh l).length = sh.length := fitC_len ρ _ _ _ hf
          have hl2 : (denL ρ σ (cs.take sh.length)).length = sh.length := by rw [denL_length]; simp; omega
          simp only [setL, List.take_zero, List.nil_append, Nat.zero_add]
          rw [List.drop_eq_nil_of_le (by omega), List.append_nil]
        have e2 : (fun i : Nat => cellsV ρ ((j + (i + 1) : Nat) : Int) sh l') = fun i : Nat => cellsV ρ (((j + 1) + i : Nat) : Int) sh l' := by
          funext i; congr 1; omega
        rw [e1]
        simp only [Nat.succ_eq_add_one]
        rw [e2, g3, ← denL_append, List.take_append_drop]
    · cases h
/-- A slice as a row. -/
def absOf (P : Program) (Γ : Facts) (e : TypeId) (size : Nat) (x : SV) (H : Hp) : Option Abs := match x with
  | .asl b n => (rowOf H b n).map fun q => q.2
  | x => match evLen x, shOf P e with
    | some k, some sh => if sh.length = size then (match evFirst H x (k * size) with
      | some cs => (rowOfL Γ sh 0 k cs (zeroC sh)).map fun l => ⟨.lit k, sh, l⟩
      | none => none) else none
    | _, _ => none
theorem absOf_ok (hΓ : Γ.Holds P ρ) {σ : Sg} {H : Hp} {w : World} (hr : HRel P ρ σ H w) {e : TypeId} {size : Nat} {x : SV} {B : Abs} (h : absOf P Γ e size x H = some B) (hsz : size = B.sh.length) :
    0 ≤ B.n.den ρ ∧ fitC B.sh B.cols = true ∧ Runs P (Builtin.lenOf (x.den ρ σ)) (B.n.den ρ).toNat ∧ (Builtin.firstCells size (B.n.den ρ).toNat (x.den ρ σ)).run P w = .ok (rowsV ρ B (B.n.den ρ).toNat).toArray w := by
  unfold absOf at h
  split at h
  · rename_i b n
    obtain ⟨q, hq, rfl⟩ := Option.map_eq_some_iff.1 h
    obtain ⟨h1, h2⟩ := rowOf_some hq
    have R := hr.row h1
    refine ⟨R.nn, R.fit, ?_, ?_⟩
    · rw [h2]; exact hr.lenR hq
    · have := hr.firstR hq hsz
      rw [h2]; exact this
  · split at h
    · rename_i x hx k sh hk hsh
      split at h
      · rename_i hs
        split at h
        · rename_i cs hcs
          obtain ⟨l, hl, rfl⟩ := Option.map_eq_some_iff.1 h
          obtain ⟨hf, _, hln⟩ := first_ok (P := P) hr hcs
          obtain ⟨g1, g2, g3⟩ := rowOfL_ok hΓ σ k 0 cs _ l hl (by rw [hln, hs]) (zeroC_fit sh)
          refine ⟨by simp [NE.den], g1, ?_, ?_⟩
          · have := lenOf_ok (P := P) (ρ := ρ) hk σ
            simpa [NE.den] using this
          · simp only [NE.den, Int.toNat_natCast]
            rw [hf]
            unfold rowsV
            rw [← g3]; simp
        · cases h
      · cases h
    · cases h

def hiN (Γ : Facts) (n : NE) : Option Nat := (iv Γ.dom n).map fun r => r.2.toNat
theorem hiN_ok (hΓ : Γ.Holds P ρ) {n : NE} {m : Nat} (h : hiN Γ n = some m) : (n.den ρ).toNat ≤ m := by
  obtain ⟨r, hr, rfl⟩ := Option.map_eq_some_iff.1 h
  have := (iv_ok hΓ.dom hr).2
  omega
/-- An append to a row, or to nothing. -/
def evAppR (P : Program) (Γ : Facts) (e : TypeId) (s x : SV) (H : Hp) : Option Out := do
  let i ← P.info? e
  let B ← absOf P Γ e i.size x H
  let mb ← hiN Γ B.n
  match s with
  | .slice base 0 0 => if B.sh.length = i.size ∧ 0 < i.size ∧ appOk P e i 0 mb = true then some (.asl H.length B.n, H ++ [some ⟨[], e, false, true, some B⟩], []) else none
  | .asl b n => do
    let q ← rowOf H b n
    let ma ← hiN Γ n
    if q.1.ro = false ∧ q.1.elem = e ∧ B.sh = q.2.sh ∧ B.sh.length = i.size ∧ 0 < i.size ∧ appOk P e i ma mb = true ∧ insideL H.length q.1.cells = true then some (.asl H.length (mkAddI n B.n), H.set b none ++ [some ⟨[], e, false, true, some (catA q.2 B)⟩], [b]) else none
  | _ => none
def evAppendR (P : Program) (Γ : Facts) (ts : Array TypeId) (args : List SV) (H : Hp) : Option Out := do
  let t ← ts[0]?
  let t1 ← ts[1]?
  let d ← P.underlying t
  let d1 ← P.underlying t1
  if isSliceD d1 = true then (match d, args with
    | .slice e, [s, x] => evAppR P Γ e s x H
    | _, _ => none) else none
theorem appOk_mono {e : TypeId} {i : TypeInfo} {a b a' b' : Nat} (h : appOk P e i a b = true) (h1 : a' ≤ a) (h2 : b' ≤ b) : appOk P e i a' b' = true := by
  unfold appOk at h ⊢
  simp only [Bool.and_eq_true, decide_eq_true_eq] at h ⊢
  exact ⟨Nat.le_trans (Nat.mul_le_mul_right _ (by omega)) h.1, by omega, h.2.2⟩
/-- A row in an array of its own. -/
theorem rowAt_of {w : World} {x : Blk} {A : Abs} {k cap : Nat} {rest : List Value} {K : Nat} (hK : K = (A.n.den ρ).toNat) (nn : 0 ≤ A.n.den ρ) (hf : fitC A.sh A.cols = true) (hw : w.heap[k]? = some (.cells (rowsV ρ A K ++ rest).toArray x.elem (0, 0)))
    (hs : (rowsV ρ A K).length + rest.length = cap * P.cellsOf x.elem) (hcs : A.sh.length = P.cellsOf x.elem) (hcap : K ≤ cap) : RowAt P ρ x A ⟨k, cap, 0, none⟩ w := by
  subst hK
  refine ⟨nn, hf, (fun a h => by cases h), (fun _ => ⟨_, _, _, hw, fun j i hj hi => ?_, fun _ => ⟨rfl, rfl, rfl, by simpa using hs, hcs, hcap⟩⟩), fun _ => hcap⟩
  rw [List.getElem?_toArray, Nat.zero_add, List.getElem?_append_left, rowsV_get hf _ _ _ hj hi]
  rw [rowsV_len hf]
  have : (j + 1) * A.sh.length ≤ (A.n.den ρ).toNat * A.sh.length := Nat.mul_le_mul_right _ hj
  rw [Nat.add_mul] at this; omega
theorem evAppendR_ok (hΓ : Γ.Holds P ρ) {σ : Sg} {H : Hp} {w : World} (hr : HRel P ρ σ H w) {ts : Array TypeId} {rt : TypeId} {args : List SV} {r : Out} (h : evAppendR P Γ ts args H = some r) :
    ∃ u w', (Builtin.append_ ts rt (denL ρ σ args).toArray).run P w = .ok u w' ∧ Good P ρ σ H r w u w' := by
  unfold evAppendR at h
  simp only [Option.bind_eq_bind, Option.bind_eq_some_iff, Option.ite_none_right_eq_some] at h
  obtain ⟨t, ht, t1, ht1, d, hd, d1, hd1, hs1, h⟩ := h
  obtain ⟨e1, rfl⟩ : ∃ e1, d1 = .slice e1 := by cases d1 <;> simp [isSliceD] at hs1; exact ⟨_, rfl⟩
  split at h
  · rename_i e s x
    unfold evAppR at h
    simp only [Option.bind_eq_bind, Option.bind_eq_some_iff] at h
    obtain ⟨i, hi, B, hB, mb, hmb, h⟩ := h
    have hmb' := hiN_ok hΓ hmb
    have hcs : P.cellsOf e = i.size := by simp [Program.cellsOf, hi]
    simp only [denL]
    split at h
    · rename_i base
      simp only [Option.ite_none_right_eq_some, Option.some.injEq] at h
      obtain ⟨⟨hsz, hpos, hok⟩, rfl⟩ := h
      obtain ⟨nb, fb, lb, cb⟩ := absOf_ok hΓ hr hB hsz.symm
      obtain ⟨_, _, _, cbd⟩ := absOf_ok hΓ hr.drew hB hsz.symm
      have hsd : (SV.slice base 0 0).den ρ σ = .slice (base.map σ.addr) 0 0 := rfl
      rw [hsd]
      rcases Nat.eq_zero_or_pos (B.n.den ρ).toNat with hz | hp
      · -- nothing is appended
        rw [hz] at lb cb
        have hrun := append_zeroV (rt := rt) (base := base.map σ.addr) (len := 0) (cap := 0) ht ht1 hd hd1 hi lb (by simpa [rowsV] using cb) (Nat.le_refl _)
        have hp := Post.add (w' := w) hr ⟨[], e, false, true, some B⟩ ⟨0, 0, 0, some (base.map σ.addr)⟩ rfl (fun h => by cases h)
          (BlkAt.ofRows rfl rfl fun A hA => by
            simp only [Option.some.injEq] at hA; subst hA
            exact ⟨nb, fb, (fun _ _ => by omega), (fun h => by cases h), (fun h => by cases h)⟩) rfl rfl rfl (Nat.le_refl _) fun _ _ => rfl
        refine ⟨_, w, hrun, _, hp, ?_, by simp [SV.inside]⟩
        simp [SV.den, Sg.snocP]
      · obtain ⟨c, rest, hrun, hce, hcl⟩ := append_growV (rt := rt) (base := base.map σ.addr) (len := 0) (cap := 0) (old := []) ht ht1 hd hd1 hi lb (by cases base <;> simp [Builtin.firstCells, loadCells, loadCellsFrom]) cbd (by simp) (by rw [rowsV_len fb, hsz]) hok hmb' (by omega)
        simp only [List.nil_append, Nat.zero_add] at hrun hce hcl
        have hp := Post.add (w' := { w.drew with heap := w.heap.push (.cells (rowsV ρ B (B.n.den ρ).toNat ++ rest).toArray e (0, 0)) }) hr.drew ⟨[], e, false, true, some B⟩ ⟨w.heap.size, c, 0, none⟩ rfl (fun _ => Nat.le_refl _)
          (BlkAt.ofRows rfl rfl fun A hA => by
            simp only [Option.some.injEq] at hA; subst hA
            exact rowAt_of (P := P) rfl nb fb (by simp) hce (by rw [hcs]; exact hsz) hcl) rfl rfl rfl (by show w.heap.size ≤ (w.heap.push _).size; simp) fun k hk => by
              have hk' : k < w.heap.size := hk
              simp only [Array.getElem?_push]; rw [if_neg (by omega)]; rfl
        refine ⟨_, _, hrun, _, hp.drew, ?_, by simp [SV.inside]⟩
        simp [SV.den, Sg.snocP]
    · rename_i b n
      simp only [Option.bind_eq_some_iff, Option.ite_none_right_eq_some, Option.some.injEq] at h
      obtain ⟨⟨y, A⟩, hq, ma, hma, ⟨hro, rfl, hsh, hsz, hpos, hok, hci⟩, rfl⟩ := h
      have hma' := hiN_ok hΓ hma
      obtain ⟨h1, h2⟩ := rowOf_some hq
      obtain ⟨hb1, hb2⟩ := getA_some h1
      have R := hr.row h1
      simp only at hro hsh hci h2
      obtain ⟨nb, fb, lb, cb⟩ := absOf_ok hΓ hr hB hsz.symm
      obtain ⟨_, _, _, cbd⟩ := absOf_ok hΓ hr.drew hB hsz.symm
      have fa := R.fit
      have na := R.nn
      have hcat := catA_rows (ρ := ρ) hsh.symm fa fb na nb
      have fc := catA_fit hsh.symm fa fb
      have hsz' : A.sh.length = i.size := by rw [← hsh]; exact hsz
      have ecn : (catA A B).n.den ρ = A.n.den ρ + B.n.den ρ := mkAddI_den _ _ _
      have eK : (A.n.den ρ).toNat + (B.n.den ρ).toNat = ((catA A B).n.den ρ).toNat := by omega
      have nc : 0 ≤ (catA A B).n.den ρ := by omega
      have hshd : y.shd = false := by simp [Blk.shd, hro]
      have enm : (mkAddI n B.n) = (catA A B).n := by simp only [catA, h2]
      obtain ⟨nn, hs⟩ := hr.slice hq
      have hok' := appOk_mono hok hma' (Nat.le_refl mb)
      rcases hs with ⟨a, hg, hz, he⟩ | ⟨hg, he⟩
      · -- a row that lies nowhere
        rw [he]
        rw [← h2] at hz hok'
        rcases Nat.eq_zero_or_pos (B.n.den ρ).toNat with hzb | hpb
        · rw [hzb] at lb cb
          have hrun := append_zeroV (rt := rt) (base := a) (len := 0) (cap := 0) ht ht1 hd hd1 hi lb (by simpa [rowsV] using cb) (Nat.le_refl _)
          have hp := Post.move (w' := w) hr hb1 (fun h => absurd h (by simp [Blk.isRec, hro])) hshd (y := ⟨[], y.elem, false, true, some (catA A B)⟩) rfl
            (BlkAt.ofRows rfl rfl fun C hC => by
              simp only [Option.some.injEq] at hC; subst hC
              exact ⟨nc, fc, (fun _ _ => by omega), (fun h => by simp [Sg.pl, hg] at h), (fun h => by simp [Sg.pl, hg] at h)⟩) rfl rfl rfl rfl fun _ _ _ => rfl
          refine ⟨_, w, hrun, _, hp, ?_, by simp [SV.inside]⟩
          simp [SV.den, Sg.snocP, Sg.pl, hg]
        · obtain ⟨c, rest, hrun, hce, hcl⟩ := append_growV (rt := rt) (base := a) (len := 0) (cap := 0) (old := []) ht ht1 hd hd1 hi lb (by cases a <;> simp [Builtin.firstCells, loadCells, loadCellsFrom]) cbd (by simp) (by rw [rowsV_len fb, hsz]) (appOk_mono hok (Nat.zero_le _) (Nat.le_refl _)) hmb' (by omega)
          simp only [List.nil_append, Nat.zero_add] at hrun hce hcl
          have ez : (A.n.den ρ).toNat = 0 := by omega
          rw [ez] at hcat
          simp only [Nat.zero_add] at hcat
          have er : rowsV ρ A 0 = [] := rfl
          rw [er, List.nil_append] at hcat
          have hp1 := Post.drop hr hb1
          have hp2 := Post.add (w' := { w.drew with heap := w.heap.push (.cells (rowsV ρ B (B.n.den ρ).toNat ++ rest).toArray y.elem (0, 0)) }) hp1.rel.drew ⟨[], y.elem, false, true, some (catA A B)⟩ ⟨w.heap.size, c, 0, none⟩ rfl (fun _ => Nat.le_refl _)
            (BlkAt.ofRows rfl rfl fun C hC => by
              simp only [Option.some.injEq] at hC; subst hC
              exact rowAt_of (P := P) (K := (B.n.den ρ).toNat) (rest := rest) (by omega) nc fc (by rw [hcat]; simp) (by rw [hcat]; exact hce) (by rw [hcs]; exact hsz') hcl) rfl rfl rfl (by show w.heap.size ≤ (w.heap.push _).size; simp) fun k hk => by
                have hk' : k < w.heap.size := hk
                simp only [Array.getElem?_push]; rw [if_neg (by omega)]; rfl
          have hp := hp1.trans hp2.drew
          simp only [List.length_set, List.append_nil] at hp
          refine ⟨_, _, hrun, _, hp, ?_, by simp [SV.inside]⟩
          simp [SV.den, Sg.snocP, mkAddI_den]
          rw [← h2]; omega
      · rw [he]
        obtain ⟨cells, te, fr, hw, hcell, hown⟩ := R.at_ hg
        obtain ⟨rfl, rfl, hoff, hsize, hcsl, hcap⟩ := hown hro
        simp only [Sg.pl] at hw hcell hoff hsize hcap
        have hfo : ∀ w2 : World, w2.heap = w.heap → HRel P ρ σ H w2 → (Builtin.firstCells i.size (n.den ρ).toNat (.slice (some ⟨σ.blk b, σ.off b, none⟩) (n.den ρ).toNat (σ.cap b))).run P w2 = .ok (rowsV ρ A (A.n.den ρ).toNat).toArray w2 := by
          intro w2 _ hr2
          have := hr2.firstR hq (size := i.size) hsz'.symm
          rw [he] at this
          simp only at this
          rw [h2]; exact this
        by_cases hc : (n.den ρ).toNat + (B.n.den ρ).toNat ≤ σ.cap b
        · have hmul : ((n.den ρ).toNat + (B.n.den ρ).toNat) * i.size ≤ σ.cap b * i.size := Nat.mul_le_mul_right _ hc
          rw [Nat.add_mul] at hmul
          have hLl : cells.toList.length = σ.cap b * i.size := by rw [Array.length_toList, hsize, hcs]
          have hrl : (rowsV ρ B (B.n.den ρ).toNat).length = (B.n.den ρ).toNat * i.size := by rw [rowsV_len fb, hsz]
          obtain ⟨w', hrun, hu⟩ := append_roomV (rt := rt) (L := cells.toList) (te := y.elem) (k := σ.blk b) (off := σ.off b) ht ht1 hd hd1 hi lb cb rowsV_allcell hc (by simpa using hw) (by rw [hoff, hrl, hLl]; omega)
          have hal : (rowsV ρ A (A.n.den ρ).toNat).length = (n.den ρ).toNat * i.size := by rw [rowsV_len fa, hsz', h2]
          have htake : cells.toList.take ((n.den ρ).toNat * i.size) = rowsV ρ A (A.n.den ρ).toNat := by
            apply List.ext_getElem?
            intro m
            rw [List.getElem?_take]
            split
            · rename_i hm
              have hm' : m < (rowsV ρ A (A.n.den ρ).toNat).length := by omega
              obtain ⟨v, hv⟩ : ∃ v, (rowsV ρ A (A.n.den ρ).toNat)[m]? = some v := ⟨_, List.getElem?_eq_getElem hm'⟩
              obtain ⟨j, i', hj, hi', rfl, hcv⟩ := rowsV_cell fa hv
              have := hcell j i' hj hi'
              rw [hoff, Nat.zero_add] at this
              rw [hv, ← hcv, ← this]; simp
            · rename_i hm
              rw [List.getElem?_eq_none (by omega)]
          have hset : setL cells.toList (σ.off b + (n.den ρ).toNat * i.size) (rowsV ρ B (B.n.den ρ).toNat) = rowsV ρ (catA A B) ((A.n.den ρ).toNat + (B.n.den ρ).toNat) ++ cells.toList.drop ((n.den ρ).toNat * i.size + (rowsV ρ B (B.n.den ρ).toNat).length) := by
            rw [hoff, Nat.zero_add, hcat]
            simp only [setL, htake]
          have hp := Post.move (w' := w') hr hb1 (fun h => absurd h (by simp [Blk.isRec, hro])) hshd (y := ⟨[], y.elem, false, true, some (catA A B)⟩) rfl
            (BlkAt.ofRows rfl rfl fun C hC => by
              simp only [Option.some.injEq] at hC; subst hC
              have hpl : σ.pl b = ⟨σ.blk b, σ.cap b, 0, none⟩ := by simp [Sg.pl, hoff, hg]
              rw [hpl]
              refine rowAt_of (P := P) (x := ⟨[], y.elem, false, true, some (catA A B)⟩) eK nc fc (by rw [← hset]; exact hu.at_) ?_ (by rw [hcs]; exact hsz') (by rw [h2]; exact hc)
              rw [rowsV_len fc, List.length_drop, hLl, hrl, hcs]
              have : (catA A B).sh.length = i.size := hsz'
              rw [this, ← h2] at *
              rw [Nat.add_mul]; omega) hu.os hu.tape hu.out hu.size fun k hk hne => hu.other k fun e => hne hg e.symm
          refine ⟨_, w', hrun, _, hp, ?_, by simp [SV.inside]⟩
          simp [SV.den, Sg.snocP, Sg.pl, hg, mkAddI_den]
          rw [← h2]; omega
        · obtain ⟨c, rest, hrun, hce, hcl⟩ := append_growV (rt := rt) (base := some ⟨σ.blk b, σ.off b, none⟩) (len := (n.den ρ).toNat) (cap := σ.cap b) ht ht1 hd hd1 hi lb (hfo w.drew rfl hr.drew) cbd (by rw [rowsV_len fa, hsz', h2]) (by rw [rowsV_len fb, hsz]) (by exact hok') hmb' (by omega)
          rw [← hcat] at hrun hce
          have hp1 := Post.drop hr hb1
          have hp2 := Post.add (w' := { w.drew with heap := w.heap.push (.cells (rowsV ρ (catA A B) ((A.n.den ρ).toNat + (B.n.den ρ).toNat) ++ rest).toArray y.elem (0, 0)) }) hp1.rel.drew ⟨[], y.elem, false, true, some (catA A B)⟩ ⟨w.heap.size, c, 0, none⟩ rfl (fun _ => Nat.le_refl _)
            (BlkAt.ofRows rfl rfl fun C hC => by
              simp only [Option.some.injEq] at hC; subst hC
              exact rowAt_of (P := P) eK nc fc (by simp) hce (by rw [hcs]; exact hsz') (by rw [h2]; exact hcl)) rfl rfl rfl (by show w.heap.size ≤ (w.heap.push _).size; simp) fun k hk => by
                have hk' : k < w.heap.size := hk
                simp only [Array.getElem?_push]; rw [if_neg (by omega)]; rfl
          have hp := hp1.trans hp2.drew
          simp only [List.length_set, List.append_nil] at hp
          refine ⟨_, _, hrun, _, hp, ?_, by simp [SV.inside]⟩
          simp [SV.den, Sg.snocP, mkAddI_den]
          rw [← h2]; omega
    · cases h
  · cases h
end Go.Proofs.Ytafnplkablkepaa.Ev

/-! The symbolic machine's operations, one by one. -/
namespace Go.Proofs.Ytafnplkablkepaa.Ev
set_option linter.unusedSimpArgs false
open Go Go.RowKit
set_option linter.unusedVariables false
variable {P : Program} {ρ : Env} {Γ : Facts}
variable {ds : List Deferred}

/-- Everywhere, or in a round of a range over a function. -/
def Rn (ro : Option Nat) : Fence := { fn := fun _ => True, depth := none, alive := false, round := ro }
/-- What a value is that an operation hands on, calls included. -/
def ORes (P : Program) (r : Result Next) (G : Value → World → Prop) : Prop := match r with
  | .ok (.round l f tmps assign body) w' => ∀ ro n, RoundIn (Rn ro) n P l f tmps assign body w' fun e w'' => ∃ v, e = .returned v ∧ G v w''
  | .ok (.value v) w' => G v w'
  | .ok .skip w' => G undef w'
  | .ok (.enter f args) w' => Calls P f args w' fun e w'' => ∃ v, e = .returned v ∧ G v w''
  | _ => False

theorem callsRn {ro : Option Nat} {n : Nat} {f : FuncId} {args : Array Value} {w : World} {R : Ending → World → Prop} (h : Calls P f args w R) : CallsIn (Rn ro) n P f args w R := (callsIn_wide (n := n)).2 h
theorem ORes.wp {ro : Option Nat} {n : Nat} {o : Oper} {a : Act} {w : World} {G : Value → World → Prop} {K : Act → World → Prop} {Q : Exit → Act → World → Prop} (hd : ∀ c, o.op ≠ .defer c) (h : ORes P ((execOp a.eval o).run P w) G) (hK : ∀ v w', G v w' → K (a.put o.dst v) w') : o.wpIn (Rn ro) n P a w K Q := by
  refine ⟨fun _ _ => trivial, ?_⟩
  rw [show (Rn ro).round = ro from rfl, Oper.semAt_eq ro _ _ hd]
  generalize (execOp a.eval o).run P w = r at *
  cases r with
  | halt x w' => cases h
  | ok n' w' =>
    cases n' with
    | value v => rw [Oper.uponIn_value]; exact hK _ _ h
    | skip => rw [Oper.uponIn_skip]; exact hK _ _ h
    | enter f args => rw [Oper.uponIn_enter]; exact ⟨fun h => (by cases h), callsRn (Calls.mono h fun e w'' ⟨v, he, hg⟩ => (by subst he; exact hK _ _ hg))⟩
    | round l f tmps assign body => rw [Oper.uponIn_round]; exact ⟨fun h => (by cases h), RoundIn.mono (h ro (n - 1)) fun e w'' ⟨v, he, hg⟩ => (by subst he; exact hK _ _ hg)⟩
    | _ => exact h.elim
theorem ORes.mono {r : Result Next} {G G' : Value → World → Prop} (h : ORes P r G) (hG : ∀ v w', G v w' → G' v w') : ORes P r G' := by
  cases r with
  | halt x w' => cases h
  | ok n w' =>
    cases n with
    | value v => exact hG _ _ h
    | skip => exact hG _ _ h
    | enter f args => exact Calls.mono h fun e w'' ⟨v, he, hg⟩ => ⟨v, he, hG _ _ hg⟩
    | round l f tmps assign body => exact fun ro n => RoundIn.mono (h ro n) fun e w'' ⟨v, he, hg⟩ => ⟨v, he, hG _ _ hg⟩
    | _ => exact h.elim
theorem map_arr {α β : Type} (f : α → β) (xs : Array α) : xs.map f = (xs.toList.map f).toArray := by cases xs; simp

/-- The number by which a call of yield goes; its first argument is yield. -/
def yieldF : FuncId := 4611686018427387904
def callY (f : FuncId) (args : List Value) : Sem Next := if f = yieldF then (match args with
  | .func (.yield l) _ _ :: rest => Instr.yield l rest.toArray
  | _ => callFunc f args.toArray) else callFunc f args.toArray
theorem callY_ne {f : FuncId} (h : Nat.beq f yieldF = false) (args : List Value) : callY f args = callFunc f args.toArray := if_neg (Nat.ne_of_beq_eq_false h)
/-- A call of a function, by whatever is known of it. -/
abbrev CallF := FuncId → List SV → Hp → Option Out
def CallOk (P : Program) (ρ : Env) (call : CallF) : Prop :=
  ∀ f args H r, call f args H = some r → ∀ σ w, HRel P ρ σ H w → insideL H.length args = true → ORes P ((callY f (denL ρ σ args)).run P w) (Good P ρ σ H r w)

/-- The greater, or the lesser, of two numbers. -/
def evMax2 (Γ : Facts) (gt : Bool) : SV → SV → Option SV
  | .int k x, .int _ y => some (.int k (nf Γ (mkBin (if gt then .maxI else .minI) x y)))
  | _, _ => none
def evMaxL (Γ : Facts) (gt : Bool) : SV → List SV → Option SV
  | x, [] => some x
  | x, y :: l => match evMax2 Γ gt x y with
    | some z => evMaxL Γ gt z l
    | none => none
theorem max2_ok (hΓ : Γ.Holds P ρ) {x y z : SV} {gt : Bool} (h : evMax2 Γ gt x y = some z) (σ : Sg) : Runs P ((if gt then Builtin.max2 else Builtin.min2) (x.den ρ σ) (y.den ρ σ)) (z.den ρ σ) ∧ ∀ n, z.inside n = true := by
  unfold evMax2 at h
  split at h
  · cases h
    refine ⟨fun w => ?_, fun _ => rfl⟩
    cases gt <;> simp [SV.den, Builtin.max2, Builtin.min2, nf_den hΓ, mkBin_den, NOp.den]
  · cases h
theorem maxL_ok (hΓ : Γ.Holds P ρ) {gt : Bool} (σ : Sg) : ∀ (l : List SV) (x z : SV), evMaxL Γ gt x l = some z → Runs P ((denL ρ σ l).foldlM (if gt then Builtin.max2 else Builtin.min2) (x.den ρ σ)) (z.den ρ σ) ∧ ∀ n, x.inside n = true → z.inside n = true
  | [], x, z, h => by cases h; exact ⟨fun w => by simp [denL], fun _ h => h⟩
  | y :: l, x, z, h => by
    simp only [evMaxL] at h
    split at h
    · rename_i u hu
      obtain ⟨h1, h2⟩ := max2_ok hΓ hu σ
      obtain ⟨h3, h4⟩ := maxL_ok hΓ σ l u z h
      refine ⟨fun w => ?_, fun n _ => h4 n (h2 n)⟩
      simp only [denL, List.foldlM_cons, Sem.run_bind, h1 w, Result.andThen_ok, h3 w]
    · cases h

def evLenB (P : Program) (t : TypeId) (x : SV) : Option Nat := match P.underlying t, x with
  | some (.array n _), _ => some n
  | some .string, .str s => some s.size
  | some (.slice _), .slice _ n _ => some n
  | some (.slice _), .vec _ n => some n
  | some (.slice _), .vsl _ _ _ n => some n
  | some (.pointer a), _ => match P.underlying a with
    | some (.array n _) => some n
    | _ => none
  | _, _ => none
theorem lenB_ok {t : TypeId} {x : SV} {n : Nat} (h : evLenB P t x = some n) {ts : Array TypeId} (ht : ts[0]? = some t) (rt : TypeId) (σ : Sg) : Runs P (Builtin.len_ ts rt #[x.den ρ σ]) (.int .i64 n) := by
  unfold evLenB at h
  intro w
  split at h
  · rename_i hu; cases h; simp [Builtin.len_, ht, run_underlying hu, goInt]
  · rename_i hu; cases h; simp [Builtin.len_, ht, run_underlying hu, goInt, SV.den]
  · rename_i hu; cases h; simp [Builtin.len_, ht, run_underlying hu, goInt, SV.den]
  · rename_i hu; cases h; simp [Builtin.len_, ht, run_underlying hu, goInt, SV.den]
  · rename_i hu; cases h; simp [Builtin.len_, ht, run_underlying hu, goInt, SV.den]
  · rename_i hu
    split at h
    · rename_i hu'; cases h; simp [Builtin.len_, ht, run_underlying hu, run_underlying hu', goInt]
    · cases h
  · cases h

/-- Where a slice that is copied to lies. -/
def dstOf : SV → Option (Option Addr × Nat)
  | .slice base n _ => some (base, n)
  | .vec b n => some (some ⟨b, 0, none⟩, n)
  | _ => none
theorem dstOf_den {d : SV} {base : Option Addr} {n : Nat} (h : dstOf d = some (base, n)) (ρ : Env) (σ : Sg) : ∃ c, d.den ρ σ = .slice (base.map σ.addr) n c := by
  unfold dstOf at h
  split at h <;> cases h
  · exact ⟨_, rfl⟩
  · exact ⟨_, by simp only [SV.den, Option.map_some]; rw [addr_none rfl]⟩
def evCopy (P : Program) (ts : Array TypeId) (args : List SV) (H : Hp) : Option Out := match args with
  | [d, s] => (ts[0]?).bind fun t => (match P.underlying t with
    | some (.slice e) => (P.info? e).bind fun i => (dstOf d).bind fun q => (evLen s).bind fun m => (evFirst H s (Nat.min m q.2 * i.size)).bind fun new => if new.all SV.isCell = true then (match q.1 with
      | none => some (.int .i64 (.lit (Nat.min m q.2 : Nat)), H, [])
      | some a => (getC H a.block).bind fun y => if a.spot = none ∧ y.ro = false ∧ a.off + new.length ≤ y.cells.length then some (.int .i64 (.lit (Nat.min m q.2 : Nat)), H.set a.block (some { y with cells := setL y.cells a.off new }), [a.block]) else none)
      else none
    | _ => none)
  | _ => none
theorem evCopy_ok {σ : Sg} {H : Hp} {w : World} (hr : HRel P ρ σ H w) {ts : Array TypeId} {rt : TypeId} {args : List SV} {r : Out} (h : evCopy P ts args H = some r) :
    ∃ u w', (Builtin.copy_ ts rt (denL ρ σ args).toArray).run P w = .ok u w' ∧ Good P ρ σ H r w u w' := by
  unfold evCopy at h
  split at h
  · rename_i d s
    obtain ⟨t, ht, h⟩ := Option.bind_eq_some_iff.1 h
    split at h
    · rename_i e hd
      simp only [Option.bind_eq_some_iff, Option.ite_none_right_eq_some] at h
      obtain ⟨i, hi, ⟨base, dl⟩, hq, m, hm, new, hnew, hall, h⟩ := h
      obtain ⟨c, hden⟩ := dstOf_den hq ρ σ
      have hlx := lenOf_ok (P := P) (ρ := ρ) hm σ w
      obtain ⟨hfn, hnin, hln⟩ := first_ok (P := P) hr hnew
      simp only at h hfn
      split at h
      · cases h
        refine ⟨_, w, ?_, good_same (v := .int .i64 (.lit (Nat.min m dl : Nat))) hr rfl⟩
        simp only [denL, hden, Option.map_none]
        simp [Builtin.copy_, ht, run_underlying hd, hlx, run_sizeOf hi w, hfn, goInt, SV.den, NE.den]
      · rename_i a
        simp only [Option.bind_eq_some_iff, Option.ite_none_right_eq_some, Option.some.injEq] at h
        obtain ⟨y, hy, ⟨hs, hro, hle⟩, rfl⟩ := h
        have hy' := getC_some hy
        obtain ⟨hyin, rest, hrow, _, _⟩ := hr.con hy hro
        obtain ⟨w', hrun, hu⟩ := run_storeCells (P := P) (t := y.elem) (k := σ.blk a.block) (off := a.off) (denL ρ σ new) 0 (denL ρ σ y.cells ++ rest) w (fun u hu => by
          rw [denL_map] at hu
          obtain ⟨z, hz, rfl⟩ := List.mem_map.1 hu
          exact SV.isCell_den (List.all_eq_true.1 hall z hz)) hrow (by simp [denL_length]; omega)
        refine ⟨_, w', ?_, σ, Post.put hr hy'.1 hy'.2.1 hy'.2.2 hnin hle hrow (by simpa using hu), rfl, rfl⟩
        simp only [denL, hden, Option.map_some]
        rw [addr_none hs]
        simp [Builtin.copy_, ht, run_underlying hd, hlx, run_sizeOf hi w, hfn, goInt, SV.den, NE.den, hrun]
    · cases h
  · cases h

def evBi (P : Program) (Γ : Facts) (b : Builtin) (ts : Array TypeId) (args : List SV) (H : Hp) : Option Out := match b, args with
  | .append, args => evAppend P ts args H
  | .copy, args => evCopy P ts args H
  | .len, [x] => do
    let t ← ts[0]?
    let n ← evLenB P t x
    some (.int .i64 (.lit n), H, [])
  | .real, [.complex k a _] => some (.float k a, H, [])
  | .imag, [.complex k _ b] => some (.float k b, H, [])
  | .complex, [.float k a, .float l b] => if k = l then some (.complex k a b, H, []) else none
  | .max, x :: l => (evMaxL Γ true x l).map fun v => (v, H, [])
  | .min, x :: l => (evMaxL Γ false x l).map fun v => (v, H, [])
  | _, _ => none
theorem evBi_ok (hΓ : Γ.Holds P ρ) {σ : Sg} {H : Hp} {w : World} (hr : HRel P ρ σ H w) {b : Builtin} {ts : Array TypeId} {rt : TypeId} {cs : Array Bool} {args : List SV} {r : Out} (h : evBi P Γ b ts args H = some r) (hin : insideL H.length args = true) :
    ORes P ((builtin b ts rt cs (denL ρ σ args).toArray).run P w) (Good P ρ σ H r w) := by
  unfold evBi at h
  split at h
  · obtain ⟨u, w', hrun, hg⟩ := evAppend_ok (rt := rt) hr h hin
    simp only [builtin, Sem.run_bind, hrun, Result.andThen_ok, Sem.run_pure]; exact hg
  · obtain ⟨u, w', hrun, hg⟩ := evCopy_ok (rt := rt) hr h
    simp only [builtin, Sem.run_bind, hrun, Result.andThen_ok, Sem.run_pure]; exact hg
  · simp only [Option.bind_eq_bind, Option.bind_eq_some_iff, Option.some.injEq] at h
    obtain ⟨t, ht, n, hn, rfl⟩ := h
    simp only [builtin, denL, Sem.run_bind, lenB_ok hn ht rt σ w, Result.andThen_ok, Sem.run_pure]
    exact good_same (v := .int .i64 (.lit n)) hr rfl
  · cases h
    have hb : ∀ (k : FloatKind) (x y : Nat), (Builtin.real_ ts rt #[.complex k x y]).run P w = .ok (.float k x) w := fun _ _ _ => rfl
    simp only [builtin, denL, SV.den, hb, Sem.run_bind, Sem.run_pure, Result.andThen_ok]
    exact good_same (v := .float _ _) hr rfl
  · cases h
    have hb : ∀ (k : FloatKind) (x y : Nat), (Builtin.imag_ ts rt #[.complex k x y]).run P w = .ok (.float k y) w := fun _ _ _ => rfl
    simp only [builtin, denL, SV.den, hb, Sem.run_bind, Sem.run_pure, Result.andThen_ok]
    exact good_same (v := .float _ _) hr rfl
  · split at h
    · rename_i hk
      subst hk
      cases h
      have hb : ∀ (k : FloatKind) (x y : Nat), (Builtin.complex_ ts rt #[.float k x, .float k y]).run P w = .ok (.complex k x y) w := by
        intro k x y
        show (if k = k then (pure (.complex k x y) : Sem Value) else _).run P w = _
        rw [if_pos rfl]; rfl
      simp only [builtin, denL, SV.den, hb, Sem.run_bind, Sem.run_pure, Result.andThen_ok]
      exact good_same (v := .complex _ _ _) hr rfl
    · cases h
  · rename_i x l
    obtain ⟨v, hv, rfl⟩ := Option.map_eq_some_iff.1 h
    obtain ⟨h1, h2⟩ := maxL_ok hΓ σ l x v hv
    simp only [if_true] at h1
    simp only [insideL, Bool.and_eq_true] at hin
    simp only [builtin, denL, Builtin.max_, Sem.run_bind, h1 w, Sem.run_pure, Result.andThen_ok]
    exact good_same hr (h2 _ hin.1)
  · rename_i x l
    obtain ⟨v, hv, rfl⟩ := Option.map_eq_some_iff.1 h
    obtain ⟨h1, h2⟩ := maxL_ok hΓ σ l x v hv
    simp only [Bool.false_eq_true, if_false] at h1
    simp only [insideL, Bool.and_eq_true] at hin
    simp only [builtin, denL, Builtin.min_, Sem.run_bind, h1 w, Sem.run_pure, Result.andThen_ok]
    exact good_same hr (h2 _ hin.1)
  · cases h

def evOpt (T : List SV) : Option Operand → Option (Option SV)
  | none => some none
  | some x => (evO T x).map some
theorem evOpt_den {σ : Sg} {n : Nat} {T : List SV} {a : Act} (h : TRel ds ρ σ n T a) {x : Option Operand} {v : Option SV} (hx : evOpt T x = some v) : x.map a.eval = v.map (·.den ρ σ) := by
  cases x with
  | none => cases hx; rfl
  | some x =>
    obtain ⟨u, hu, rfl⟩ := Option.map_eq_some_iff.1 hx
    simp [(evO_den h hu).1]

def newB (cs : List SV) (t : TypeId) (H : Hp) : Hp := H ++ [some ⟨cs, t, false, false, none⟩]

def isPtrD : TypeDesc → Bool
  | .pointer _ => true
  | _ => false
/-- The method of that name; its receiver is the value itself. -/
def evMethod (P : Program) (t : TypeId) (name : String) : Option FuncId := do
  let i ← P.info? t
  let m ← i.methods.find? (·.name == name)
  let d ← P.underlying t
  match m.path.toList, m.func with
  | [], some (f, pr) => if pr = isPtrD d then some f else none
  | _, _ => none
theorem method_ok {t : TypeId} {name : String} {f : FuncId} (h : evMethod P t name = some f) (v : Value) (n : Nat) : Runs P (method (n + 1) t v name) (f, v) := by
  unfold evMethod at h
  simp only [Option.bind_eq_bind, Option.bind_eq_some_iff] at h
  obtain ⟨i, hi, m, hm, d, hd, h⟩ := h
  split at h
  · rename_i g pr hp hf
    split at h
    · rename_i hpr
      cases h
      subst hpr
      intro w
      have h1 : ∀ wr, (receiverAt t (.val v) (isPtrD d) wr).run P w = .ok v w := by
        intro wr
        simp only [receiverAt, Sem.run_bind, run_underlying hd, Result.andThen_ok]
        cases d <;> simp [isPtrD, Place.get]
      simp [method, typeInfo, hi, hm, hp, follow, hf, h1]
    · cases h
  · cases h

def evOp0 (P : Program) (Γ : Facts) (call : CallF) (T : List SV) (H : Hp) (o : Oper) : Option Out :=
  let u (v : Option SV) : Option Out := v.map fun v => (v, H, [])
  match o.op with
  | .move x => u (evO T x)
  | .assign x => u (evO T x)
  | .pick c x y => (match evO T c with
    | some (.bool c) => (match res Γ c with
      | some true => u (evO T x)
      | some false => u (evO T y)
      | none => none)
    | _ => none)
  | .alloc t => (embedZ P t).map fun cs => (.ptr (some ⟨H.length, 0, none⟩), newB cs t H, [])
  | .box t x => (evO T x).map fun v => (.ptr (some ⟨H.length, 0, none⟩), newB v.cells t H, [])
  | .build t ps => u ((evParts T ps.toList).bind fun l => (evBuild P t l).map .agg)
  | .buildSlice t n ps => (evParts T ps.toList).bind fun l => (evBuildSlice P t n l).map fun r => (.slice (some ⟨H.length, 0, none⟩) n n, newB r.2 r.1 H, [])
  | .load t x => u ((evAddr (evO T x)).bind fun a => evLoad P t a H)
  | .store t x y => (evAddr (evO T x)).bind fun a => (evO T y).bind fun v => (evStore P t a v H).map fun r => (uS, r.1, r.2)
  | .nilCheck x => (match evO T x with
    | some (.ptr (some a)) => some (.ptr (some a), H, [])
    | some (.func (.func f) fs cs) => some (.func (.func f) fs cs, H, [])
    | some (.yld b) => some (.yld b, H, [])
    | some (.iface t v) => some (.iface t v, H, [])
    | _ => none)
  | .makeInterface t x => if P.concrete t then u ((evO T x).map (.iface t)) else none
  | .binOp op t x y _ => u ((evO T x).bind fun X => (evO T y).bind fun Y => evBin P Γ op t x y X Y)
  | .unOp op _ x => u ((evO T x).bind fun X => evUn Γ op X)
  | .convert s d x => u ((evO T x).bind fun X => evConv P Γ s d X)
  | .makeFunc fn f c => u ((evOs T f.toList).bind fun f => (evOs T c.toList).map fun c => .func fn f c)
  | .makeSlice t l c => (evO T l).bind fun l => (evO T c).bind fun c => (evMakeSlice P t l c).map fun r => (.slice (some ⟨H.length, 0, none⟩) r.2.2.1 r.2.2.2, newB r.2.1 r.1 H, [])
  | .slice t x lo hi none => u ((evO T x).bind fun X => (evOpt T lo).bind fun lo => (evOpt T hi).bind fun hi => evSlice P t X lo hi)
  | .fieldAddr s x f => u ((evAddr (evO T x)).bind fun a => (evField P s a f).map fun a => .ptr (some a))
  | .field t x f => u ((evO T x).bind fun X => evFieldV P t X f)
  | .indexAddr t x i => u ((evO T x).bind fun X => (evO T i).bind fun I => (evIndexAt P t X I).map fun a => .ptr (some a))
  | .index t x i => u ((evO T x).bind fun X => (evO T i).bind fun I => evIndex P t X I)
  | .extract x i => u ((evO T x).bind fun X => evExtract X i)
  | .call c => (match c.callee with
    | .value f => (match evO T f with
      | some (.func (.func g) fs cs) => if Nat.beq g yieldF then none else (evOs T c.args.toList).bind fun args => call g (fs ++ args ++ cs) H
      | some (.yld b) => (evOs T c.args.toList).bind fun args => call yieldF (.yld b :: args) H
      | _ => none)
    | .builtin b => (evOs T c.args.toList).bind fun args => evBi P Γ b c.argTypes args H
    | .invoke x name => (match evO T x with
      | some (.iface t v) => (evOs T c.args.toList).bind fun args => (evMethod P t name).bind fun m => if Nat.beq m yieldF then none else call m (v :: args) H
      | _ => none))
  | _ => none

theorem ores_val {s : Sem Value} {w w' : World} {u : Value} {G : Value → World → Prop} (h : s.run P w = .ok u w') (hG : G u w') : ORes P ((do pure (Next.value (← s)) : Sem Next).run P w) G := by
  simp only [Sem.run_bind, h, Result.andThen_ok, Sem.run_pure]; exact hG
theorem ores_runs {s : Sem Value} {w : World} {σ : Sg} {H : Hp} {v : SV} (hr : HRel P ρ σ H w) (h : Runs P s (v.den ρ σ)) (hv : v.inside H.length = true) : ORes P ((do pure (Next.value (← s)) : Sem Next).run P w) (Good P ρ σ H (v, H, []) w) :=
  ores_val (h w) (good_same hr hv)
theorem good_new {σ σ' : Sg} {H : Hp} {w w' : World} {cs : List SV} {t : TypeId} {v : SV} (hp : Post P ρ σ σ' H (H ++ [some ⟨cs, t, false, false, none⟩]) [] w w') (hv : v.inside (H.length + 1) = true) : Good P ρ σ H (v, newB cs t H, []) w (v.den ρ σ') w' :=
  ⟨σ', hp, rfl, by simpa [newB] using hv⟩

theorem evOp0_ok (hΓ : Γ.Holds P ρ) {call : CallF} (hc : CallOk P ρ call) {T : List SV} {H : Hp} {o : Oper} {r : Out} (h : evOp0 P Γ call T H o = some r) {σ : Sg} {a : Act} {w : World} (hT : TRel ds ρ σ H.length T a) (hr : HRel P ρ σ H w) :
    ORes P ((execOp a.eval o).run P w) (Good P ρ σ H r w) := by
  obtain ⟨dst, op, ty, pos, after, guard⟩ := o
  unfold evOp0 at h
  cases op <;> simp only at h
  case move x | assign x =>
    obtain ⟨v, hv, rfl⟩ := Option.map_eq_some_iff.1 h
    obtain ⟨e, s⟩ := evO_den hT hv
    simp only [execOp, e, Sem.run_pure]
    exact good_same hr s
  case pick c x y =>
    split at h
    · rename_i c' hc'
      obtain ⟨e, _⟩ := evO_den hT hc'
      split at h
      · rename_i hres
        obtain ⟨v, hv, rfl⟩ := Option.map_eq_some_iff.1 h
        obtain ⟨e2, s2⟩ := evO_den hT hv
        have := res_den hΓ hres
        simp only [execOp, e, e2, SV.den, asBool, this, Sem.run_bind, Sem.run_pure, Result.andThen_ok, if_true]
        exact good_same hr s2
      · rename_i hres
        obtain ⟨v, hv, rfl⟩ := Option.map_eq_some_iff.1 h
        obtain ⟨e2, s2⟩ := evO_den hT hv
        have := res_den hΓ hres
        simp only [execOp, e, e2, SV.den, asBool, this, Sem.run_bind, Sem.run_pure, Result.andThen_ok, Bool.false_eq_true, if_false]
        exact good_same hr s2
      · cases h
    · cases h
  case alloc t =>
    obtain ⟨cs, hcs, rfl⟩ := Option.map_eq_some_iff.1 h
    obtain ⟨z, hz, hzc, hin⟩ := embedZ_ok (ρ := ρ) hcs σ
    obtain ⟨σ', w', hrun, hp⟩ := newRow_ok hr t (hin H.length)
    refine ores_val (u := .pointer (some ⟨σ'.blk H.length, 0, none⟩)) (w' := w') ?_ (good_new (v := .ptr (some ⟨H.length, 0, none⟩)) hp (by simp [SV.inside]))
    simp only [Instr.alloc, newVar, hzc, Sem.run_bind, hz w, Result.andThen_ok, hrun, Sem.run_pure]
  case box t x =>
    obtain ⟨v, hv, rfl⟩ := Option.map_eq_some_iff.1 h
    obtain ⟨e, s⟩ := evO_den hT hv
    obtain ⟨σ', w', hrun, hp⟩ := newRow_ok hr t (SV.cells_inside s)
    refine ores_val (u := .pointer (some ⟨σ'.blk H.length, 0, none⟩)) (w' := w') ?_ (good_new (v := .ptr (some ⟨H.length, 0, none⟩)) hp (by simp [SV.inside]))
    simp only [Instr.box, newVar, e, SV.cells_den _ _ _ (evO_any hv), Sem.run_bind, hrun, Result.andThen_ok, Sem.run_pure]
  case build t ps =>
    obtain ⟨v, hv, rfl⟩ := Option.map_eq_some_iff.1 h
    obtain ⟨l, hl, hv⟩ := Option.bind_eq_some_iff.1 hv
    obtain ⟨cs, hcs, rfl⟩ := Option.map_eq_some_iff.1 hv
    obtain ⟨e, s, sa⟩ := evParts_den hT hl
    obtain ⟨h1, h2⟩ := build_ok (ρ := ρ) (σ := σ) sa hcs (ps := ps.map fun p => (p.1, a.eval p.2)) (by simpa using e)
    exact ores_runs (v := .agg cs) hr h1 (h2 _ s)
  case buildSlice t n ps =>
    obtain ⟨l, hl, h⟩ := Option.bind_eq_some_iff.1 h
    obtain ⟨⟨e', cs⟩, hcs, rfl⟩ := Option.map_eq_some_iff.1 h
    obtain ⟨e, s, sa⟩ := evParts_den hT hl
    obtain ⟨σ', w', hrun, hp⟩ := buildSlice_ok hr sa hcs (ps := ps.map fun p => (p.1, a.eval p.2)) (by simpa using e) s
    exact ores_val hrun (good_new (v := .slice (some ⟨H.length, 0, none⟩) n n) hp (by simp [SV.inside]))
  case load t x =>
    obtain ⟨v, hv, rfl⟩ := Option.map_eq_some_iff.1 h
    obtain ⟨ad, had, hv⟩ := Option.bind_eq_some_iff.1 hv
    obtain ⟨e, s⟩ := evO_den hT (evAddr_some had)
    obtain ⟨h1, h2⟩ := load_ok hr hv
    refine ores_val (u := v.den ρ σ) (w' := w) ?_ (good_same hr h2)
    simp only [Instr.loadAt, e, SV.den, Option.map_some, Instr.sureAddr, Sem.run_bind, Sem.run_pure, Result.andThen_ok, h1]
  case store t x y =>
    obtain ⟨ad, had, h⟩ := Option.bind_eq_some_iff.1 h
    obtain ⟨v, hv, h⟩ := Option.bind_eq_some_iff.1 h
    obtain ⟨⟨H', W⟩, hs, rfl⟩ := Option.map_eq_some_iff.1 h
    obtain ⟨e, s⟩ := evO_den hT (evAddr_some had)
    obtain ⟨e2, s2⟩ := evO_den hT hv
    obtain ⟨w', hrun, hp⟩ := store_ok hr (evO_any hv) s2 hs
    simp only [execOp, Instr.storeAt, e, e2, SV.den, Option.map_some, Instr.sureAddr, Sem.run_bind, Sem.run_pure, Result.andThen_ok]
    rw [hrun]
    exact ⟨σ, hp, rfl, rfl⟩
  case nilCheck x =>
    split at h
    · rename_i ad had
      cases h
      obtain ⟨e, s⟩ := evO_den hT had
      simp only [execOp, e, SV.den, Option.map_some, Sem.run_pure]
      exact good_same (v := .ptr (some ad)) hr s
    · rename_i f fs cs hf
      cases h
      obtain ⟨e, s⟩ := evO_den hT hf
      simp only [execOp, e, SV.den, Sem.run_pure]
      exact good_same (v := .func (.func f) fs cs) hr s
    · rename_i b hf
      cases h
      obtain ⟨e, s⟩ := evO_den hT hf
      simp only [execOp, e, SV.den, Sem.run_pure]
      exact good_same (v := .yld b) hr s
    · rename_i t v ht
      cases h
      obtain ⟨e, s⟩ := evO_den hT ht
      simp only [execOp, e, SV.den, Sem.run_pure]
      exact good_same (v := .iface t v) hr s
    · cases h
  case makeInterface t x =>
    split at h
    · rename_i hc
      obtain ⟨v, hv, rfl⟩ := Option.map_eq_some_iff.1 h
      obtain ⟨X, hX, rfl⟩ := Option.map_eq_some_iff.1 hv
      obtain ⟨e, s⟩ := evO_den hT hX
      simp only [execOp, e]
      exact ores_runs (v := .iface t X) hr (fun w => run_makeInterface w t _ hc) s
    · cases h
  case binOp op t x y yt =>
    obtain ⟨v, hv, rfl⟩ := Option.map_eq_some_iff.1 h
    obtain ⟨X, hX, hv⟩ := Option.bind_eq_some_iff.1 hv
    obtain ⟨Y, hY, hv⟩ := Option.bind_eq_some_iff.1 hv
    obtain ⟨e1, _⟩ := evO_den hT hX
    obtain ⟨e2, _⟩ := evO_den hT hY
    obtain ⟨h1, h2⟩ := evBin_ok hΓ hv σ
    simp only [execOp, e1, e2]
    exact ores_runs hr h1 (h2 _)
  case unOp op t x =>
    obtain ⟨v, hv, rfl⟩ := Option.map_eq_some_iff.1 h
    obtain ⟨X, hX, hv⟩ := Option.bind_eq_some_iff.1 hv
    obtain ⟨e1, _⟩ := evO_den hT hX
    obtain ⟨h1, h2⟩ := evUn_ok (P := P) hΓ hv σ
    simp only [execOp, e1]
    exact ores_runs hr h1 (h2 _)
  case convert s d x =>
    obtain ⟨v, hv, rfl⟩ := Option.map_eq_some_iff.1 h
    obtain ⟨X, hX, hv⟩ := Option.bind_eq_some_iff.1 hv
    obtain ⟨e1, _⟩ := evO_den hT hX
    obtain ⟨h1, h2⟩ := evConv_ok hΓ hv σ
    simp only [execOp, e1]
    exact ores_runs hr h1 (h2 _)
  case makeFunc fn f c =>
    obtain ⟨v, hv, rfl⟩ := Option.map_eq_some_iff.1 h
    obtain ⟨fs, hf, hv⟩ := Option.bind_eq_some_iff.1 hv
    obtain ⟨cs, hc', rfl⟩ := Option.map_eq_some_iff.1 hv
    obtain ⟨e1, s1⟩ := evOs_den hT hf
    obtain ⟨e2, s2⟩ := evOs_den hT hc'
    have g1 : f.map a.eval = (denL ρ σ fs).toArray := by rw [← e1, map_arr]
    have g2 : c.map a.eval = (denL ρ σ cs).toArray := by rw [← e2, map_arr]
    refine ores_runs (v := .func fn fs cs) hr (fun w => ?_) (by simp [SV.inside, s1, s2])
    simp only [Instr.makeFunc, g1, g2, Sem.run_pure, SV.den]
  case makeSlice t l c =>
    obtain ⟨L, hL, h⟩ := Option.bind_eq_some_iff.1 h
    obtain ⟨C, hC, h⟩ := Option.bind_eq_some_iff.1 h
    obtain ⟨⟨e', cs, n, m⟩, hcs, rfl⟩ := Option.map_eq_some_iff.1 h
    obtain ⟨e1, _⟩ := evO_den hT hL
    obtain ⟨e2, _⟩ := evO_den hT hC
    obtain ⟨σ', w', hrun, hp⟩ := makeSlice_ok hr hcs
    simp only [execOp, e1, e2]
    exact ores_val hrun (good_new (v := .slice (some ⟨H.length, 0, none⟩) n m) hp (by simp [SV.inside]))
  case slice t x lo hi mx =>
    cases mx with
    | some m => cases h
    | none =>
      simp only at h
      obtain ⟨v, hv, rfl⟩ := Option.map_eq_some_iff.1 h
      obtain ⟨X, hX, hv⟩ := Option.bind_eq_some_iff.1 hv
      obtain ⟨L, hL, hv⟩ := Option.bind_eq_some_iff.1 hv
      obtain ⟨R, hR, hv⟩ := Option.bind_eq_some_iff.1 hv
      obtain ⟨e1, s1⟩ := evO_den hT hX
      obtain ⟨h1, h2⟩ := slice_ok (P := P) (ρ := ρ) (σ := σ) hv
      simp only [execOp, e1, evOpt_den hT hL, evOpt_den hT hR, Option.map_none]
      exact ores_runs hr h1 (h2 _ s1)
  case fieldAddr s x f =>
    obtain ⟨v, hv, rfl⟩ := Option.map_eq_some_iff.1 h
    obtain ⟨ad, had, hv⟩ := Option.bind_eq_some_iff.1 hv
    obtain ⟨ad', had', rfl⟩ := Option.map_eq_some_iff.1 hv
    obtain ⟨e, s'⟩ := evO_den hT (evAddr_some had)
    obtain ⟨h1, h2⟩ := field_ok (σ := σ) had'
    simp only [execOp, e]
    have := of_decide_eq_true s'
    exact ores_runs (v := .ptr (some ad')) hr h1 (decide_eq_true (by rw [h2]; exact this))
  case field t x f =>
    obtain ⟨v, hv, rfl⟩ := Option.map_eq_some_iff.1 h
    obtain ⟨X, hX, hv⟩ := Option.bind_eq_some_iff.1 hv
    obtain ⟨e1, s1⟩ := evO_den hT hX
    obtain ⟨h1, h2⟩ := fieldV_ok (P := P) (ρ := ρ) (σ := σ) hv
    simp only [execOp, e1]
    exact ores_runs hr h1 (h2 _ s1)
  case indexAddr t x i =>
    obtain ⟨v, hv, rfl⟩ := Option.map_eq_some_iff.1 h
    obtain ⟨X, hX, hv⟩ := Option.bind_eq_some_iff.1 hv
    obtain ⟨I, hI, hv⟩ := Option.bind_eq_some_iff.1 hv
    obtain ⟨ad, had, rfl⟩ := Option.map_eq_some_iff.1 hv
    obtain ⟨e1, s1⟩ := evO_den hT hX
    obtain ⟨e2, _⟩ := evO_den hT hI
    obtain ⟨h1, h2⟩ := indexAt_ok (P := P) (ρ := ρ) (σ := σ) had
    simp only [execOp, e1, e2]
    exact ores_runs (v := .ptr (some ad)) hr h1 (decide_eq_true (h2 _ s1))
  case index t x i =>
    obtain ⟨v, hv, rfl⟩ := Option.map_eq_some_iff.1 h
    obtain ⟨X, hX, hv⟩ := Option.bind_eq_some_iff.1 hv
    obtain ⟨I, hI, hv⟩ := Option.bind_eq_some_iff.1 hv
    obtain ⟨e1, s1⟩ := evO_den hT hX
    obtain ⟨e2, _⟩ := evO_den hT hI
    obtain ⟨h1, h2⟩ := index_ok (P := P) (ρ := ρ) (σ := σ) hv
    simp only [execOp, e1, e2]
    exact ores_runs hr h1 (h2 _ s1)
  case extract x i =>
    obtain ⟨v, hv, rfl⟩ := Option.map_eq_some_iff.1 h
    obtain ⟨X, hX, hv⟩ := Option.bind_eq_some_iff.1 hv
    obtain ⟨e1, s1⟩ := evO_den hT hX
    obtain ⟨h1, h2⟩ := extract_ok (P := P) (ρ := ρ) (σ := σ) hv
    simp only [execOp, e1]
    exact ores_runs hr h1 (h2 _ s1)
  case call c =>
    obtain ⟨callee, args, ats⟩ := c
    cases callee with
    | invoke x name =>
      simp only at h
      split at h
      · rename_i t v hx
        obtain ⟨vs, hvs, h⟩ := Option.bind_eq_some_iff.1 h
        obtain ⟨f, hm, h⟩ := Option.bind_eq_some_iff.1 h
        split at h
        · cases h
        rename_i hy
        have hy : Nat.beq f yieldF = false := eq_false_of_ne_true hy
        obtain ⟨e, s⟩ := evOs_den hT hvs
        obtain ⟨e1, s1⟩ := evO_den hT hx
        have g' : args.map a.eval = (denL ρ σ vs).toArray := by rw [← e, map_arr]
        obtain ⟨n, hn⟩ : ∃ n, P.types.size + Made.depth = n + 1 := ⟨P.types.size + 99, rfl⟩
        have h1 := method_ok hm (v.den ρ σ) n
        have := hc f (v :: vs) H r h σ w hr (by simp only [insideL, Bool.and_eq_true]; exact ⟨s1, s⟩)
        rw [callY_ne hy] at this
        simp only [execOp, resolve, g', e1, SV.den, Sem.run_bind, Sem.run_pure, Result.andThen_ok, invoke]
        simp only [List.getElem?_toArray, List.append_toArray, List.cons_append, List.nil_append, List.getElem?_cons_zero, callMethod, Sem.run_bind, run_program, Result.andThen_ok, hn, h1 w]
        simpa [denL] using this
      · cases h
    | builtin b =>
      simp only at h
      obtain ⟨vs, hvs, h⟩ := Option.bind_eq_some_iff.1 h
      obtain ⟨e, s⟩ := evOs_den hT hvs
      have g : args.map a.eval = (denL ρ σ vs).toArray := by rw [← e, map_arr]
      have := evBi_ok hΓ hr (rt := ty) (cs := args.map fun | .const _ => true | _ => false) h s
      simp only [execOp, resolve, g, Sem.run_bind, Sem.run_pure, Result.andThen_ok, invoke]
      exact this
    | value f =>
      simp only at h
      split at h
      · rename_i g fs cs hf
        split at h
        · cases h
        rename_i hy
        have hy : Nat.beq g yieldF = false := eq_false_of_ne_true hy
        obtain ⟨vs, hvs, h⟩ := Option.bind_eq_some_iff.1 h
        obtain ⟨e, s⟩ := evOs_den hT hvs
        obtain ⟨e1, s1⟩ := evO_den hT hf
        have g' : args.map a.eval = (denL ρ σ vs).toArray := by rw [← e, map_arr]
        simp only [SV.inside, Bool.and_eq_true] at s1
        have := hc g (fs ++ vs ++ cs) H r h σ w hr (insideL_of fun v hv => by
          rcases List.mem_append.1 hv with hv | hv
          · rcases List.mem_append.1 hv with hv | hv
            · exact insideL_mem s1.1 hv
            · exact insideL_mem s hv
          · exact insideL_mem s1.2 hv)
        rw [callY_ne hy] at this
        simp only [execOp, resolve, g', e1, SV.den, Deferred.ofValue, Sem.run_bind, Sem.run_pure, Result.andThen_ok, invoke]
        simpa [denL_append] using this
      · rename_i b hf
        obtain ⟨vs, hvs, h⟩ := Option.bind_eq_some_iff.1 h
        obtain ⟨e, s⟩ := evOs_den hT hvs
        obtain ⟨e1, s1⟩ := evO_den hT hf
        have g' : args.map a.eval = (denL ρ σ vs).toArray := by rw [← e, map_arr]
        have := hc yieldF (.yld b :: vs) H r h σ w hr (by simp only [insideL, Bool.and_eq_true]; exact ⟨s1, s⟩)
        simp only [callY, denL, SV.den, if_true] at this
        simp only [execOp, resolve, g', e1, SV.den, Deferred.ofValue, Sem.run_bind, Sem.run_pure, Result.andThen_ok, invoke]
        simpa using this
      · cases h
  all_goals cases h

/-- A row of numbers, told one by one. -/
def arrC : Nat → List NE → NE
  | _, [] => .acst (.lit 0)
  | k, x :: l => .aupd (arrC (k + 1) l) (.lit k) x
theorem arrC_get : ∀ (l : List NE) (k : Nat) (j : Nat) (x : NE), l[j]? = some x → (arrC k l).aden ρ ((k + j : Nat) : Int) = x.den ρ
  | [], k, j, x, h => by simp at h
  | y :: l, k, 0, x, h => by simp at h; subst h; simp [arrC, NE.aden, NE.den]
  | y :: l, k, j + 1, x, h => by
    have := arrC_get l (k + 1) j x (by simpa using h)
    have hne : ¬ ((k + (j + 1) : Nat) : Int) = (NE.lit (k : Int)).den ρ := by simp only [NE.den]; omega
    simp only [arrC, NE.aden]
    rw [if_neg hne, ← this]
    congr 1; omega
def intsOf (k : IntKind) : List SV → Option (List NE)
  | [] => some []
  | .int k' e :: l => if k = k' then (intsOf k l).map (e :: ·) else none
  | _ => none
theorem intsOf_get {k : IntKind} : ∀ {l : List SV} {r : List NE}, intsOf k l = some r → ∀ j : Nat, l[j]? = (r[j]?).map (.int k)
  | [], r, h, j => by simp only [intsOf] at h; cases h; simp
  | v :: l, r, h, j => by
    unfold intsOf at h
    split at h
    · rename_i heq; cases heq
    · rename_i k' e l' heq
      cases heq
      split at h
      · rename_i hk
        subst hk
        obtain ⟨s, hs, rfl⟩ := Option.map_eq_some_iff.1 h
        cases j with
        | zero => simp
        | succ j => simpa using intsOf_get hs j
      · cases h
    · cases h
def flosOf (k : FloatKind) : List SV → Option (List NE × List NE)
  | [] => some ([], [])
  | .complex k' e f :: l => if k = k' then (flosOf k l).map fun r => (e :: r.1, f :: r.2) else none
  | _ => none
theorem flosOf_get {k : FloatKind} : ∀ {l : List SV} {r : List NE × List NE}, flosOf k l = some r → ∀ j : Nat, j < l.length → ∃ e f, l[j]? = some (.complex k e f) ∧ r.1[j]? = some e ∧ r.2[j]? = some f
  | [], r, h, j, hj => by simp at hj
  | v :: l, r, h, j, hj => by
    unfold flosOf at h
    split at h
    · rename_i heq; cases heq
    · rename_i k' e f l' heq
      cases heq
      split at h
      · rename_i hk
        subst hk
        obtain ⟨s, hs, rfl⟩ := Option.map_eq_some_iff.1 h
        cases j with
        | zero => exact ⟨e, f, by simp, by simp, by simp⟩
        | succ j => simpa using flosOf_get hs j (by simpa using hj)
      · cases h
    · cases h
def sLen (e : NE) : NE := .bin .sLen e (.lit 0)
def evIndexS (P : Program) (Γ : Facts) (t : TypeId) (x i : SV) : Option SV := match i with
  | .int _ j => do
    let d ← P.underlying t
    match d, x with
    | .array len e, .agg cs => do
      let ti ← P.info? e
      let de ← P.underlying e
      if ti.size = 1 ∧ aggD de = false ∧ cs.length = len ∧ inR Γ j (.lit len) = true then (match cs with
        | .int k _ :: _ => (intsOf k cs).map fun l => .int k (mkSel (arrC 0 l) j)
        | .complex k _ _ :: _ => (flosOf k cs).map fun l => .complex k (mkSel (arrC 0 l.1) j) (mkSel (arrC 0 l.2) j)
        | _ => none) else none
    | .string, x => do
      let e ← strCode x
      if inR Γ j (sLen e) = true then some (.int .u8 (.bin .sAt e j)) else none
    | _, _ => none
  | _ => none
theorem atS_get {s : ByteArray} {i : Int} (h0 : 0 ≤ i) (h1 : i < s.size) : ∃ b : UInt8, s[i.toNat]? = some b ∧ atS s i = b.toNat := by
  have hlt : i.toNat < s.size := by omega
  refine ⟨s[i.toNat], by simp [hlt], ?_⟩
  unfold atS
  rw [if_pos h0]
  simp [hlt]
theorem indexS_ok (hΓ : Γ.Holds P ρ) {σ : Sg} {t : TypeId} {x i v : SV} (h : evIndexS P Γ t x i = some v) : Runs P (Instr.index t (x.den ρ σ) (i.den ρ σ)) (v.den ρ σ) ∧ ∀ m, v.inside m = true := by
  unfold evIndexS at h
  split at h
  · rename_i kj j
    simp only [Option.bind_eq_bind, Option.bind_eq_some_iff] at h
    obtain ⟨d, hd, h⟩ := h
    split at h
    · rename_i len e cs
      simp only [Option.bind_eq_some_iff, Option.ite_none_right_eq_some] at h
      obtain ⟨ti, hi, de, hde, ⟨hsz, hagg, hlen, hin⟩, h⟩ := h
      obtain ⟨h0, h1⟩ := inR_ok hΓ hin
      simp only [NE.den] at h1
      have hj : (j.den ρ).toNat < cs.length := by omega
      have hpart : ∀ u : SV, cs[(j.den ρ).toNat]? = some u → Runs P (Instr.index t ((SV.agg cs).den ρ σ) ((SV.int kj j).den ρ σ)) (u.den ρ σ) := by
        intro u hu
        have hp : partS P e cs ((j.den ρ).toNat * ti.size) = some u := by
          unfold partS
          rw [hde]
          simp only [hagg, Bool.false_eq_true, if_false, hsz, Nat.mul_one]
          exact hu
        obtain ⟨hr, _⟩ := part_ok (ρ := ρ) hp σ
        intro w
        simp [SV.den, Instr.index, asIntOf, run_underlying hd, h0, h1, run_sizeOf hi w, hr w]
      split at h
      · rename_i k e0 rest
        obtain ⟨l, hl, rfl⟩ := Option.map_eq_some_iff.1 h
        refine ⟨?_, fun _ => rfl⟩
        have hg := intsOf_get hl (j.den ρ).toNat
        obtain ⟨u, hu⟩ : ∃ u, (SV.int k e0 :: rest)[(j.den ρ).toNat]? = some u := ⟨_, List.getElem?_eq_getElem hj⟩
        rw [hu] at hg
        obtain ⟨n, hn, rfl⟩ := Option.map_eq_some_iff.1 hg.symm
        have := arrC_get (ρ := ρ) l 0 (j.den ρ).toNat n hn
        have e1 : ((0 + (j.den ρ).toNat : Nat) : Int) = j.den ρ := by omega
        rw [e1] at this
        have h2 := hpart _ hu
        simp only [SV.den, mkSel_den, this] at h2 ⊢
        exact h2
      · rename_i k e0 f0 rest
        obtain ⟨l, hl, rfl⟩ := Option.map_eq_some_iff.1 h
        refine ⟨?_, fun _ => rfl⟩
        obtain ⟨a, b, hu, ha, hb⟩ := flosOf_get hl (j.den ρ).toNat hj
        have g1 := arrC_get (ρ := ρ) l.1 0 (j.den ρ).toNat a ha
        have g2 := arrC_get (ρ := ρ) l.2 0 (j.den ρ).toNat b hb
        have e1 : ((0 + (j.den ρ).toNat : Nat) : Int) = j.den ρ := by omega
        rw [e1] at g1 g2
        have h2 := hpart _ hu
        simp only [SV.den, mkSel_den, g1, g2] at h2 ⊢
        exact h2
      · cases h
    · simp only [Option.bind_eq_some_iff, Option.ite_none_right_eq_some, Option.some.injEq] at h
      obtain ⟨e, he, hin, rfl⟩ := h
      obtain ⟨h0, h1⟩ := inR_ok hΓ hin
      simp only [sLen, NE.den, NOp.den] at h1
      obtain ⟨b, hb, ha⟩ := atS_get h0 h1
      refine ⟨fun w => ?_, fun _ => rfl⟩
      rw [strCode_den he σ]
      simp [SV.den, NE.den, NOp.den, Instr.index, asIntOf, run_underlying hd, h0, hb, ha]
    · cases h
  · cases h

def evLenR (P : Program) (Γ : Facts) (t : TypeId) (x : SV) (H : Hp) : Option NE := match P.underlying t, x with
  | some (.slice _), .asl b n => (rowOf H b n).map fun _ => n
  | some (.slice _), .rsl b _ lo hi => (getA H b).bind fun q => if res Γ (mkIcmp .leq (.lit 0) lo) == some true && (res Γ (mkIcmp .leq lo hi) == some true && res Γ (mkIcmp .leq hi q.2.n) == some true) then some (nf Γ (mkBin .subI hi lo)) else none
  | some .string, .strn e => some (sLen e)
  | _, _ => none
theorem lenR_ok (hΓ : Γ.Holds P ρ) {σ : Sg} {H : Hp} {w : World} (hr : HRel P ρ σ H w) {t : TypeId} {x : SV} {n : NE} (h : evLenR P Γ t x H = some n) {ts : Array TypeId} (ht : ts[0]? = some t) (rt : TypeId) : (Builtin.len_ ts rt #[x.den ρ σ]).run P w = .ok (.int .i64 (n.den ρ)) w := by
  unfold evLenR at h
  split at h
  · rename_i b m hu
    obtain ⟨q, hq, rfl⟩ := Option.map_eq_some_iff.1 h
    obtain ⟨nn, hs⟩ := hr.slice hq
    rcases hs with ⟨a, hg, hz, he⟩ | ⟨hg, he⟩
    · rw [he, hz]; simp [Builtin.len_, ht, run_underlying hu, goInt]
    · rw [he]; simp [Builtin.len_, ht, run_underlying hu, goInt, Int.toNat_of_nonneg nn]
  · rename_i b st lo hi hu
    obtain ⟨⟨x, A⟩, hq, h⟩ := Option.bind_eq_some_iff.1 h
    simp only [Option.ite_none_right_eq_some, Option.some.injEq, Bool.and_eq_true, beq_iff_eq] at h
    obtain ⟨⟨k0, k1, k2⟩, rfl⟩ := h
    have le : ∀ {a b : NE}, res Γ (mkIcmp .leq a b) = some true → a.den ρ ≤ b.den ρ := fun h => by
      have h1 := res_den hΓ h
      rw [mkIcmp_den] at h1
      exact of_decide_eq_true h1
    have k0 := le k0
    have k1 := le k1
    have k2 := le k2
    simp only [NE.den] at k0
    have R := hr.row hq
    have en : (nf Γ (mkBin .subI hi lo)).den ρ = hi.den ρ - lo.den ρ := by rw [nf_den hΓ, mkBin_den]; rfl
    rw [en]
    cases hg : σ.gh b with
    | some a =>
      have hz := R.gh a hg
      simp only [SV.den, hg]
      have : hi.den ρ - lo.den ρ = 0 := by omega
      rw [this]
      simp [Builtin.len_, ht, run_underlying hu, goInt]
    | none =>
      have : (((hi.den ρ - lo.den ρ).toNat : Nat) : Int) = hi.den ρ - lo.den ρ := by omega
      simp only [SV.den, hg]
      simp [Builtin.len_, ht, run_underlying hu, goInt, this]
  · rename_i hu
    cases h
    simp [Builtin.len_, ht, run_underlying hu, goInt, SV.den, sLen, NE.den, NOp.den]
  · cases h

/-- A slice with elements is not nil. -/
def evNil (P : Program) (Γ : Facts) (op : BinOp) (t : TypeId) (X Y : SV) (H : Hp) : Option SV := match isEqOp op, X, Y with
  | some pos, .asl b n, .slice none 0 0 => (match P.underlying t, rowOf H b n, iv Γ.dom n with
    | some (.slice _), some _, some r => if 1 ≤ r.1 ∧ P.eqGuardType P.depth t = false then some (.bool (if pos then .lit false else mkNot (.lit false))) else none
    | _, _, _ => none)
  | _, _, _ => none
theorem nil_ok (hΓ : Γ.Holds P ρ) {σ : Sg} {H : Hp} {w : World} (hr : HRel P ρ σ H w) {op : BinOp} {t : TypeId} {x y : Operand} {X Y v : SV} (h : evNil P Γ op t X Y H = some v) :
    Runs P (do eqGuard op t x y (X.den ρ σ) (Y.den ρ σ); binOp op t (X.den ρ σ) (Y.den ρ σ)) (v.den ρ σ) ∧ ∀ n, v.inside n = true := by
  unfold evNil at h
  split at h
  · rename_i pos b n hop
    split at h
    · rename_i e q r hd hq hi
      split at h
      · rename_i hc
        cases h
        obtain ⟨nn, hs⟩ := hr.slice hq
        have hiv := (iv_ok hΓ.dom hi).1
        rcases hs with ⟨a, hg, hz, he⟩ | ⟨hg, he⟩
        · omega
        · have e1 : (SV.asl b n).den ρ σ = (SV.slice (some ⟨b, σ.off b, none⟩) (n.den ρ).toNat (σ.cap b)).den ρ σ := by rw [he]; rfl
          rw [e1]
          have := genEq_ok (P := P) (ρ := ρ) hop (t := t) (x := x) (y := y) (X := .slice (some ⟨b, σ.off b, none⟩) (n.den ρ).toNat (σ.cap b)) (Y := .slice none 0 0) rfl hc.2 (b := .lit false) (by simp [eqS, hd]) σ
          exact ⟨this, fun _ => rfl⟩
      · cases h
    · cases h
  · cases h
/-- The slice x[:0:0]: nothing, there. -/
def zeroB (x : Option SV) : Bool := match x with
  | none => false
  | some v => litI v == some 0
def zeroL (x : Option SV) : Bool := match x with
  | none => true
  | some v => litI v == some 0
theorem bound0 {σ : Sg} {v : SV} {y : Nat} {c : BoundsCode} (h : (litI v == some 0) = true) : Runs P (Instr.sliceBound (v.den ρ σ) y c) 0 := by
  intro w
  obtain ⟨k, hk⟩ := litI_den (ρ := ρ) (eq_of_beq h) σ
  simp [Instr.sliceBound, hk, asIntOf]
theorem bounds0 {σ : Sg} {len cap : Nat} {lo hi mx : Option SV} (h1 : zeroL lo = true) (h2 : zeroB hi = true) (h3 : zeroB mx = true) :
    Runs P (Instr.sliceBounds true len cap (lo.map (·.den ρ σ)) (hi.map (·.den ρ σ)) (mx.map (·.den ρ σ))) (0, 0, 0) := by
  intro w
  cases hi with
  | none => cases h2
  | some u =>
    cases mx with
    | none => cases h3
    | some m =>
      have b2 : ∀ y c w, (Instr.sliceBound (u.den ρ σ) y c).run P w = .ok 0 w := fun y c w => bound0 h2 w
      have b3 : ∀ y c w, (Instr.sliceBound (m.den ρ σ) y c).run P w = .ok 0 w := fun y c w => bound0 h3 w
      cases lo with
      | none => simp [Instr.sliceBounds, b2, b3]
      | some l =>
        have b1 : ∀ y c w, (Instr.sliceBound (l.den ρ σ) y c).run P w = .ok 0 w := fun y c w => bound0 h1 w
        simp [Instr.sliceBounds, b1, b2, b3]
def evSlice3 (P : Program) (t : TypeId) (X : SV) (lo hi mx : Option SV) (H : Hp) : Option Out :=
  if zeroL lo && (zeroB hi && zeroB mx) then (match P.underlying t, X with
    | some (.slice e), .asl b n => (match P.info? e, rowOf H b n with
      | some _, some q => some (.asl H.length (.lit 0), H ++ [some ⟨[], e, false, true, some ⟨.lit 0, q.2.sh, zeroC q.2.sh⟩⟩], [])
      | _, _ => none)
    | some (.slice e), .slice a len cap => (match P.info? e with
      | some _ => some (.slice a 0 0, H, [])
      | none => none)
    | _, _ => none) else none
theorem slice3_ok {σ : Sg} {H : Hp} {w : World} (hr : HRel P ρ σ H w) {t : TypeId} {X : SV} {lo hi mx : Option SV} {r : Out} (hX : X.inside H.length = true) (h : evSlice3 P t X lo hi mx H = some r) :
    ∃ u, (Instr.sliceAt t (X.den ρ σ) (lo.map (·.den ρ σ)) (hi.map (·.den ρ σ)) (mx.map (·.den ρ σ))).run P w = .ok u w ∧ Good P ρ σ H r w u w := by
  unfold evSlice3 at h
  split at h
  · rename_i hz
    simp only [Bool.and_eq_true] at hz
    split at h
    · rename_i e b n hd
      split at h
      · rename_i i q hi' hq
        cases h
        have hex : ∃ (A : Option Addr) (l c : Nat), (SV.asl b n).den ρ σ = .slice A l c := by
          simp only [SV.den]; split <;> exact ⟨_, _, _, rfl⟩
        obtain ⟨A, l, c, hA⟩ := hex
        refine ⟨.slice A 0 0, ?_, σ.snocP H.length ⟨0, 0, 0, some A⟩, Post.add (w' := w) hr _ _ rfl (fun h => by cases h)
          (BlkAt.ofRows rfl rfl fun B hB => by
            simp only [Option.some.injEq] at hB; subst hB
            exact ⟨by simp [NE.den], zeroC_fit _, (fun _ _ => by simp [NE.den]), (fun h => by cases h), (fun h => by cases h)⟩) rfl rfl rfl (Nat.le_refl _) fun _ _ => rfl, ?_, by simp [SV.inside]⟩
        · rw [hA]
          simp only [Instr.sliceAt, Instr.slice, Sem.run_bind, run_underlying hd, Result.andThen_ok, bounds0 hz.1 hz.2.1 hz.2.2 w, run_sizeOf hi' w, Sem.run_pure, if_true, Nat.sub_self]
        · simp [SV.den, Sg.snocP]
      · cases h
    · rename_i e a len cap hd
      split at h
      · rename_i i hi'
        cases h
        refine ⟨_, ?_, good_same (v := .slice a 0 0) hr (by cases a <;> exact hX)⟩
        simp only [SV.den, Instr.sliceAt, Instr.slice, Sem.run_bind, run_underlying hd, Result.andThen_ok, bounds0 hz.1 hz.2.1 hz.2.2 w, run_sizeOf hi' w, Sem.run_pure, if_true, Nat.sub_self]
      · cases h
    · cases h
  · cases h
/-- Parts of slices that grew. -/
def evSliceV (P : Program) (t : TypeId) (X : SV) (lo hi : Option SV) (H : Hp) : Option SV := match P.underlying t, X with
  | some (.slice e), .vec b len => (P.info? e).bind fun i => (getC H b).bind fun y => if y.opn = true ∧ y.elem = e ∧ 0 < i.size then (evBound hi len (y.cells.length / i.size)).bind fun h => (evBound lo 0 h).bind fun l =>
      if h ≤ y.cells.length / i.size then (if l = 0 then some (.vec b h) else some (.vsl b i.size l (h - l))) else none
    else none
  | some (.slice e), .vsl b st lo0 len => (P.info? e).bind fun i => (getC H b).bind fun y => if y.opn = true ∧ y.elem = e ∧ 0 < i.size ∧ st = i.size then (evBound hi len (y.cells.length / i.size - lo0)).bind fun h => (evBound lo 0 h).bind fun l =>
      if lo0 + h ≤ y.cells.length / i.size ∧ (l < h ∨ l = 0) then some (.vsl b st (lo0 + l) (h - l)) else none
    else none
  | _, _ => none
theorem bound_mono {x : Option SV} {d y z h : Nat} (hb : evBound x d y = some h) (hz : y ≤ z) : evBound x d z = some h := by
  unfold evBound at hb ⊢
  cases x with
  | none => exact hb
  | some v =>
    simp only [Option.bind_eq_bind, Option.bind_eq_some_iff, Option.ite_none_right_eq_some, Option.some.injEq] at hb ⊢
    obtain ⟨i, hi, ⟨h0, h1⟩, rfl⟩ := hb
    exact ⟨i, hi, ⟨h0, by omega⟩, rfl⟩
theorem capV {σ : Sg} {H : Hp} {w : World} (hr : HRel P ρ σ H w) {b : Nat} {y : Blk} (hy : getC H b = some y) (ho : y.opn = true) {i : TypeInfo} (hi : P.info? y.elem = some i) (hs : 0 < i.size) : y.cells.length / i.size ≤ σ.cap b := by
  obtain ⟨_, rest, _, _, _, hopn, _⟩ := hr.conR hy
  have := hopn ho
  have hcs : P.cellsOf y.elem = i.size := by simp [Program.cellsOf, hi]
  rw [hcs] at this
  exact Nat.div_le_of_le_mul (by rw [Nat.mul_comm]; omega)
theorem sliceV_ok {σ : Sg} {H : Hp} {w : World} (hr : HRel P ρ σ H w) {t : TypeId} {X v : SV} {lo hi : Option SV} (h : evSliceV P t X lo hi H = some v) :
    (Instr.sliceAt t (X.den ρ σ) (lo.map (·.den ρ σ)) (hi.map (·.den ρ σ)) none).run P w = .ok (v.den ρ σ) w ∧ ∀ m, X.inside m = true → v.inside m = true := by
  unfold evSliceV at h
  split at h
  · rename_i e b len hd
    simp only [Option.bind_eq_some_iff, Option.ite_none_right_eq_some] at h
    obtain ⟨i, hi', y, hy, ⟨ho, rfl, hs⟩, h', hh, l, hl, hle, h⟩ := h
    have hcap := capV hr hy ho hi' hs
    have hb := bounds_ok (P := P) (ρ := ρ) (σ := σ) (isS := true) (bound_mono hh hcap) hl
    split at h
    · rename_i h0
      cases h
      subst h0
      refine ⟨?_, fun m hm => hm⟩
      simp only [SV.den, Instr.sliceAt, Instr.slice, Sem.run_bind, run_underlying hd, Result.andThen_ok, Instr.sureAddr, Sem.run_pure, hb w, run_sizeOf hi' w, addr_add, Option.map_some]
      simp
    · rename_i h0
      cases h
      refine ⟨?_, fun m hm => hm⟩
      simp only [SV.den, Instr.sliceAt, Instr.slice, Sem.run_bind, run_underlying hd, Result.andThen_ok, Instr.sureAddr, Sem.run_pure, hb w, run_sizeOf hi' w, addr_add, Option.map_some]
      split <;> simp [*]
  · rename_i e b st lo0 len hd
    simp only [Option.bind_eq_some_iff, Option.ite_none_right_eq_some, Option.some.injEq] at h
    obtain ⟨i, hi', y, hy, ⟨ho, rfl, hs, rfl⟩, h', hh, l, hl, ⟨hle, hlh⟩, rfl⟩ := h
    have hcap := capV hr hy ho hi' hs
    have hb := bounds_ok (P := P) (ρ := ρ) (σ := σ) (isS := true) (bound_mono hh (show _ ≤ σ.cap b - lo0 by omega)) hl
    refine ⟨?_, fun m hm => hm⟩
    simp only [SV.den, Instr.sliceAt, Instr.slice, Sem.run_bind, run_underlying hd, Result.andThen_ok, Instr.sureAddr, Sem.run_pure, hb w, run_sizeOf hi' w, addr_add, Option.map_some]
    have e2 : σ.cap b - lo0 - l = σ.cap b - (lo0 + l) := by omega
    rw [e2]
    rcases hlh with hlh | h0
    · rw [if_neg (show ¬ (σ.cap b - lo0 = l) by omega), if_neg (show ¬ (σ.cap b = lo0) by omega), if_neg (show ¬ (σ.cap b = lo0 + l) by omega), Nat.add_mul]
    · subst h0
      by_cases hc : σ.cap b = lo0
      · rw [if_pos (show σ.cap b - lo0 = 0 by omega), if_pos hc, if_pos (show σ.cap b = lo0 + 0 by omega)]
      · rw [if_neg (show ¬ (σ.cap b - lo0 = 0) by omega), if_neg hc, if_neg (show ¬ (σ.cap b = lo0 + 0) by omega)]; simp
  · cases h
def evIndexV (P : Program) (t : TypeId) (X I : SV) (H : Hp) : Option SV := match P.underlying t, X with
  | some (.slice e), .vsl b st lo len => (litI I).bind fun n => (P.info? e).bind fun i => (getC H b).bind fun y => if y.opn = true ∧ y.elem = e ∧ 0 < i.size ∧ st = i.size ∧ 0 ≤ n ∧ n < len ∧ lo + len ≤ y.cells.length / i.size then some (.ptr (some ⟨b, (lo + n.toNat) * st, none⟩)) else none
  | _, _ => none
theorem indexV_ok {σ : Sg} {H : Hp} {w : World} (hr : HRel P ρ σ H w) {t : TypeId} {X I v : SV} (h : evIndexV P t X I H = some v) :
    (Instr.indexAt t (X.den ρ σ) (I.den ρ σ)).run P w = .ok (v.den ρ σ) w ∧ ∀ m, X.inside m = true → v.inside m = true := by
  unfold evIndexV at h
  split at h
  · rename_i e b st lo len hd
    simp only [Option.bind_eq_some_iff, Option.ite_none_right_eq_some, Option.some.injEq] at h
    obtain ⟨n, hn, i, hi', y, hy, ⟨ho, rfl, hs, rfl, h0, h1, hle⟩, rfl⟩ := h
    have hcap := capV hr hy ho hi' hs
    obtain ⟨k, hk⟩ := litI_den (ρ := ρ) hn σ
    rw [hk]
    refine ⟨?_, fun m hm => hm⟩
    have e1 : ((SV.ptr (some ⟨b, (lo + n.toNat) * i.size, none⟩)).den ρ σ) = .pointer (some ⟨σ.blk b, (lo + n.toNat) * i.size, none⟩) := by simp only [SV.den, Option.map_some]; rw [addr_none rfl]
    rw [e1]
    simp only [SV.den]
    rw [if_neg (show ¬ (σ.cap b = lo) by omega)]
    simp [Instr.indexAt, asIntOf, run_underlying hd, Instr.sureAddr, h0, h1, run_sizeOf hi' w, addr_add, Nat.add_mul]
  · cases h
/-- Whether a number surely is at most another one. -/
def leR (Γ : Facts) (a b : NE) : Bool := res Γ (mkIcmp .leq a b) == some true
theorem leR_ok (hΓ : Γ.Holds P ρ) {a b : NE} (h : leR Γ a b = true) : a.den ρ ≤ b.den ρ := by
  have h1 := res_den hΓ (eq_of_beq h)
  rw [mkIcmp_den] at h1
  exact of_decide_eq_true h1
def evB (x : Option SV) (d : NE) : Option NE := match x with
  | none => some d
  | some (.int _ e) => some e
  | _ => none
theorem boundR {σ : Sg} {v : SV} {k : IntKind} {e : NE} (hv : v = .int k e) {y : Nat} {c : BoundsCode} (h0 : 0 ≤ e.den ρ) (h1 : e.den ρ ≤ y) : Runs P (Instr.sliceBound (v.den ρ σ) y c) (e.den ρ).toNat := by
  intro w
  subst hv
  simp [SV.den, Instr.sliceBound, asIntOf, h0, h1]
theorem boundsR {σ : Sg} {len cap : Nat} {lo hi : Option SV} {n l h : NE} (hh : evB hi n = some h) (hl : evB lo (.lit 0) = some l) (hn : (n.den ρ).toNat = len) (h0 : 0 ≤ l.den ρ) (h1 : l.den ρ ≤ h.den ρ) (h2 : h.den ρ ≤ n.den ρ) (hc : len ≤ cap) :
    Runs P (Instr.sliceBounds true len cap (lo.map (·.den ρ σ)) (hi.map (·.den ρ σ)) none) ((l.den ρ).toNat, (h.den ρ).toNat, cap) := by
  intro w
  have low : ∀ y : Nat, h.den ρ ≤ y → ∀ v : SV, lo = some v → ∀ c, (Instr.sliceBound (v.den ρ σ) y c).run P w = .ok (l.den ρ).toNat w := by
    intro y hy v hv c
    subst hv
    cases v <;> simp only [evB] at hl <;> cases hl
    exact boundR rfl h0 (by omega) w
  cases hi with
  | none =>
    cases hh
    cases lo with
    | none => cases hl; simp [Instr.sliceBounds, hn, NE.den]
    | some v =>
      have := low len (by omega) v rfl
      simp [Instr.sliceBounds, this, hn]
  | some u =>
    cases u <;> simp only [evB] at hh <;> cases hh
    rename_i k
    have b1 : ∀ c, (Instr.sliceBound ((SV.int k h).den ρ σ) cap c).run P w = .ok (h.den ρ).toNat w := fun c => boundR rfl (by omega) (by omega) w
    cases lo with
    | none => cases hl; simp [Instr.sliceBounds, b1, NE.den]
    | some v =>
      have := low (h.den ρ).toNat (by omega) v rfl
      simp [Instr.sliceBounds, b1, this]
/-- Parts of rows. -/
def evSliceR (P : Program) (Γ : Facts) (t : TypeId) (X : SV) (lo hi : Option SV) (H : Hp) : Option SV := match P.underlying t, X with
  | some (.slice e), .asl b n => (P.info? e).bind fun i => (rowOf H b n).bind fun q => (evB hi n).bind fun h => (evB lo (.lit 0)).bind fun l =>
    if leR Γ (.lit 0) l && (leR Γ l h && leR Γ h n) then some (.rsl b i.size l h) else none
  | some (.slice e), .rsl b st l0 h0 => (P.info? e).bind fun i => (getA H b).bind fun q => (evB hi (nf Γ (mkBin .subI h0 l0))).bind fun h => (evB lo (.lit 0)).bind fun l =>
    if st = i.size ∧ (leR Γ (.lit 0) l0 && (leR Γ l0 h0 && (leR Γ h0 q.2.n && (leR Γ (.lit 0) l && (leR Γ l h && (leR Γ h (nf Γ (mkBin .subI h0 l0)) && (l == .lit 0 || leR Γ (mkAddI l (.lit 1)) h))))))) = true then some (.rsl b st (nf Γ (mkAddI l0 l)) (nf Γ (mkAddI l0 h))) else none
  | _, _ => none
theorem sliceR_ok (hΓ : Γ.Holds P ρ) {σ : Sg} {H : Hp} {w : World} (hr : HRel P ρ σ H w) {t : TypeId} {X v : SV} {lo hi : Option SV} (h : evSliceR P Γ t X lo hi H = some v) :
    (Instr.sliceAt t (X.den ρ σ) (lo.map (·.den ρ σ)) (hi.map (·.den ρ σ)) none).run P w = .ok (v.den ρ σ) w ∧ ∀ m, X.inside m = true → v.inside m = true := by
  unfold evSliceR at h
  split at h
  · rename_i e b n hd
    simp only [Option.bind_eq_some_iff, Option.ite_none_right_eq_some, Option.some.injEq, Bool.and_eq_true] at h
    obtain ⟨i, hi', q, hq, h', hh, l, hl, ⟨g0, g1, g2⟩, rfl⟩ := h
    have g0 := leR_ok hΓ g0
    have g1 := leR_ok hΓ g1
    have g2 := leR_ok hΓ g2
    simp only [NE.den] at g0
    obtain ⟨hq1, hq2⟩ := rowOf_some hq
    have R := hr.row hq1
    obtain ⟨nn, hs⟩ := hr.slice hq
    refine ⟨?_, fun m hm => hm⟩
    rcases hs with ⟨a, hg, hz, he⟩ | ⟨hg, he⟩
    · have el : l.den ρ = 0 := by omega
      have eh : h'.den ρ = 0 := by omega
      have hb := boundsR (P := P) (ρ := ρ) (σ := σ) (cap := 0) (len := 0) hh hl (by omega) g0 g1 g2 (Nat.le_refl _)
      rw [he]
      simp only [SV.den, hg, Instr.sliceAt, Instr.slice, Sem.run_bind, run_underlying hd, Result.andThen_ok, Sem.run_pure, hb w, run_sizeOf hi' w, el, eh]
      simp
    · have hcp := R.cp hg
      rw [hq2] at hcp
      have hb := boundsR (P := P) (ρ := ρ) (σ := σ) (cap := σ.cap b) (len := (n.den ρ).toNat) hh hl rfl g0 g1 g2 hcp
      rw [he]
      simp only [SV.den, hg, Instr.sliceAt, Instr.slice, Sem.run_bind, run_underlying hd, Result.andThen_ok, Sem.run_pure, hb w, run_sizeOf hi' w, Option.map_some, addr_add]
      have e1 : (h'.den ρ - l.den ρ).toNat = (h'.den ρ).toNat - (l.den ρ).toNat := by omega
      rw [e1]
      by_cases hc : σ.cap b = (l.den ρ).toNat
      · rw [if_pos hc, if_pos (show (σ.cap b : Int) = l.den ρ by omega)]
      · rw [if_neg hc, if_neg (show ¬ (σ.cap b : Int) = l.den ρ by omega)]
  · rename_i e b st l0 h0 hd
    simp only [Option.bind_eq_some_iff, Option.ite_none_right_eq_some, Option.some.injEq, Bool.and_eq_true, Bool.or_eq_true, beq_iff_eq] at h
    obtain ⟨i, hi', ⟨x, A⟩, hq, h', hh, l, hl, ⟨rfl, k0, k1, k2, g0, g1, g2, g3⟩, rfl⟩ := h
    have k0 := leR_ok hΓ k0
    have k1 := leR_ok hΓ k1
    have k2 := leR_ok hΓ k2
    have g0 := leR_ok hΓ g0
    have g1 := leR_ok hΓ g1
    have g2 := leR_ok hΓ g2
    have en : (nf Γ (mkBin .subI h0 l0)).den ρ = h0.den ρ - l0.den ρ := by rw [nf_den hΓ, mkBin_den]; rfl
    have g3' : l.den ρ = 0 ∨ l.den ρ < h'.den ρ := by
      rcases g3 with g3 | g3
      · left; rw [g3]; rfl
      · right; have := leR_ok hΓ g3; rw [mkAddI_den] at this; simp only [NE.den] at this; omega
    simp only [NE.den] at g0 k0
    rw [en] at g2
    have R := hr.row hq
    have ea : (nf Γ (mkAddI l0 l)).den ρ = l0.den ρ + l.den ρ := by rw [nf_den hΓ, mkAddI_den]
    have eb : (nf Γ (mkAddI l0 h')).den ρ = l0.den ρ + h'.den ρ := by rw [nf_den hΓ, mkAddI_den]
    refine ⟨?_, fun m hm => hm⟩
    cases hg : σ.gh b with
    | some a =>
      have hz := R.gh a hg
      simp only at k2
      have el : l.den ρ = 0 := by omega
      have eh : h'.den ρ = 0 := by omega
      have hb := boundsR (P := P) (ρ := ρ) (σ := σ) (cap := 0) (len := 0) hh hl (by omega) g0 g1 (by omega) (Nat.le_refl _)
      simp only [SV.den, hg, Instr.sliceAt, Instr.slice, Sem.run_bind, run_underlying hd, Result.andThen_ok, Sem.run_pure, hb w, run_sizeOf hi' w, el, eh]
      simp
    | none =>
      have hcp : (A.n.den ρ).toNat ≤ σ.cap b := R.cp hg
      simp only at k2
      have hb := boundsR (P := P) (ρ := ρ) (σ := σ) (cap := σ.cap b - (l0.den ρ).toNat) (len := (h0.den ρ - l0.den ρ).toNat) hh hl (by rw [en]) g0 g1 (by omega) (by omega)
      simp only [SV.den, hg, Instr.sliceAt, Instr.slice, Sem.run_bind, run_underlying hd, Result.andThen_ok, Sem.run_pure, hb w, run_sizeOf hi' w, Option.map_some, addr_add, ea, eb]
      have e1 : (l0.den ρ + h'.den ρ - (l0.den ρ + l.den ρ)).toNat = (h'.den ρ).toNat - (l.den ρ).toNat := by omega
      have e2 : σ.cap b - (l0.den ρ + l.den ρ).toNat = σ.cap b - (l0.den ρ).toNat - (l.den ρ).toNat := by omega
      have e3 : (l0.den ρ + l.den ρ).toNat = (l0.den ρ).toNat + (l.den ρ).toNat := by omega
      rw [e1, e2]
      rcases g3' with hz | hlt
      · rw [hz, Int.add_zero]
        simp only [Int.toNat_zero, Nat.zero_mul, Nat.add_zero, Nat.sub_zero]
        simp
      · rw [if_neg (show ¬ (σ.cap b - (l0.den ρ).toNat = (l.den ρ).toNat) by omega), if_neg (show ¬ (σ.cap b : Int) = l0.den ρ by omega), if_neg (show ¬ (σ.cap b : Int) = l0.den ρ + l.den ρ by omega), e3, Nat.add_mul, Nat.add_assoc]
  · cases h
def evIndexP (P : Program) (Γ : Facts) (t : TypeId) (X I : SV) (H : Hp) : Option SV := match P.underlying t, X, I with
  | some (.slice e), .rsl b st lo hi, .int _ j => (P.info? e).bind fun i => (getA H b).bind fun q => if st = i.size ∧ (leR Γ (.lit 0) lo && (leR Γ hi q.2.n && inR Γ j (nf Γ (mkBin .subI hi lo)))) = true then some (.eptr b (nf Γ (mkAddI lo j)) st 0) else none
  | _, _, _ => none
theorem indexP_ok (hΓ : Γ.Holds P ρ) {σ : Sg} {H : Hp} {w : World} (hr : HRel P ρ σ H w) {t : TypeId} {X I v : SV} (h : evIndexP P Γ t X I H = some v) :
    (Instr.indexAt t (X.den ρ σ) (I.den ρ σ)).run P w = .ok (v.den ρ σ) w ∧ ∀ m, X.inside m = true → v.inside m = true := by
  unfold evIndexP at h
  split at h
  · rename_i e b st lo hi k j hd
    simp only [Option.bind_eq_some_iff, Option.ite_none_right_eq_some, Option.some.injEq, Bool.and_eq_true] at h
    obtain ⟨i, hi', ⟨x, A⟩, hq, ⟨rfl, k0, k2, hin⟩, rfl⟩ := h
    have k0 := leR_ok hΓ k0
    have k2 := leR_ok hΓ k2
    obtain ⟨h0, h1⟩ := inR_ok hΓ hin
    have en : (nf Γ (mkBin .subI hi lo)).den ρ = hi.den ρ - lo.den ρ := by rw [nf_den hΓ, mkBin_den]; rfl
    rw [en] at h1
    simp only [NE.den] at k0
    simp only at k2
    have R := hr.row hq
    have hg : σ.gh b = none := by
      cases hg : σ.gh b with
      | none => rfl
      | some a => have := R.gh a hg; omega
    have hcp : (A.n.den ρ).toNat ≤ σ.cap b := R.cp hg
    have ea : (nf Γ (mkAddI lo j)).den ρ = lo.den ρ + j.den ρ := by rw [nf_den hΓ, mkAddI_den]
    refine ⟨?_, fun m hm => hm⟩
    have h1' : j.den ρ < (((hi.den ρ - lo.den ρ).toNat : Nat) : Int) := by omega
    simp only [SV.den, hg, ea]
    rw [if_neg (show ¬ (σ.cap b : Int) = lo.den ρ by omega)]
    have e3 : (lo.den ρ + j.den ρ).toNat = (lo.den ρ).toNat + (j.den ρ).toNat := by omega
    rw [e3, Nat.add_mul]
    simp [Instr.indexAt, asIntOf, run_underlying hd, Instr.sureAddr, h0, h1', run_sizeOf hi' w, addr_add, Nat.add_assoc]
    intro h9; omega
  · cases h
/-- A text as bytes. -/
def evBytes (P : Program) (s d : TypeId) (x : SV) (H : Hp) : Option Out := match P.underlying s, P.underlying d, x with
  | some .string, some (.slice e), .str bs => (match P.underlying e with
    | some (.int .u8) => some (.vec H.length bs.size, H ++ [some ⟨bs.data.toList.map fun b => .int .u8 (.lit b.toNat), e, true, false, none⟩], [])
    | _ => none)
  | _, _, _ => none
theorem bytes_ok {σ : Sg} {H : Hp} {w : World} (hr : HRel P ρ σ H w) {s d : TypeId} {x : SV} {r : Out} (h : evBytes P s d x H = some r) :
    ∃ u w', (convert s d (x.den ρ σ)).run P w = .ok u w' ∧ Good P ρ σ H r w u w' := by
  unfold evBytes at h
  split at h
  · rename_i e bs hs hd
    split at h
    · rename_i he
      cases h
      obtain ⟨k, hcut⟩ : ∃ k, (Question.appendCap bs.size 0 e).cut (w.tape w.drawn (.appendCap bs.size 0 e)) = bs.size + k := ⟨_, rfl⟩
      have hcells : denL ρ (σ.snoc H.length w.heap.size (bs.size + k)) (bs.data.toList.map fun b => .int .u8 (.lit b.toNat)) = (bs.data.map fun b => Value.int .u8 b.toNat).toList := by
        rw [denL_map]; simp [SV.den, NE.den]
      have hin : insideL H.length (bs.data.toList.map fun b => SV.int .u8 (.lit b.toNat)) = true := insideL_of fun v hv => by
        obtain ⟨b, _, rfl⟩ := List.mem_map.1 hv; rfl
      obtain ⟨arr, harr⟩ : ∃ arr : Array Value, arr = (bs.data.map fun b => Value.int .u8 b.toNat) ++ Array.replicate k (.int .u8 0) := ⟨_, rfl⟩
      have hsz : arr.size = bs.size + k := by rw [harr, Array.size_append, Array.size_map, Array.size_replicate]; rfl
      refine ⟨.slice (some ⟨w.heap.size, 0, none⟩) bs.size (bs.size + k), { w.drew with heap := w.heap.push (.cells arr e (bs.size + k, bs.size + k + 1)) }, ?_, σ.snoc H.length w.heap.size (bs.size + k), ?_, ?_, ?_⟩
      · have hq : (Question.appendCap bs.size 0 e).forced = false := rfl
        have e0 : bs.size + k - bs.size = k := by omega
        have hch : (choose (.appendCap bs.size 0 e)).run P w = .ok (bs.size + k) w.drew := by simp [choose, Sem.run, hq, hcut]
        let W1 : World := { w.drew with heap := w.heap.push (.cells arr e (0, 0)) }
        have h1 : (newRow e arr).run P w.drew = .ok ⟨w.heap.size, 0, none⟩ W1 := rfl
        have hsh : W1.shape? w.heap.size = some (e, bs.size + k) := by simp [World.shape?, W1, hsz]
        have hmod : ∀ (o : Obj) (f : Obj → Obj), (w.heap.push o).modify w.heap.size f = w.heap.push (f o) := by
          intro o f
          apply Array.ext_getElem?
          intro i
          rw [Array.getElem?_modify]
          simp only [Array.getElem?_push]
          by_cases hi : i = w.heap.size
          · subst hi; simp
          · rw [if_neg (Ne.symm hi), if_neg hi, if_neg hi]
        have h3 : W1.freeze ⟨w.heap.size, bs.size + k, none⟩ 1 = { w.drew with heap := w.heap.push (.cells arr e (bs.size + k, bs.size + k + 1)) } := by
          simp only [World.freeze, W1]
          rw [if_neg (by decide), hmod]
          simp
        have h2 : (markStringish ⟨w.heap.size, 0, none⟩).run P W1 = .ok () { w.drew with heap := w.heap.push (.cells arr e (bs.size + k, bs.size + k + 1)) } := by
          rw [← h3]
          simp only [markStringish, Sem.run_bind, shape, Sem.run, Result.andThen_ok, hsh]
          rfl
        simp only [SV.den, convert, Sem.run_bind, run_underlying hs, run_underlying hd, run_underlying he, Result.andThen_ok, Conv.stringToBytes, hch, e0, ← harr, h1, h2, Sem.run_pure]
      · have hp := Post.add (w' := { w.drew with heap := w.heap.push (.cells arr e (bs.size + k, bs.size + k + 1)) }) hr.drew ⟨bs.data.toList.map fun b => .int .u8 (.lit b.toNat), e, true, false, none⟩ ⟨w.heap.size, bs.size + k, 0, none⟩ hin (fun _ => Nat.le_refl _)
          (BlkAt.ofCon rfl rfl ⟨rfl, rfl, List.replicate k (.int .u8 0), (bs.size + k, bs.size + k + 1), ?_, (fun _ h => by cases h), (fun h => by cases h), fun h => by cases h⟩) rfl rfl rfl (by show w.heap.size ≤ (w.heap.push _).size; simp) fun k hk => by
            have hk' : k < w.heap.size := hk
            simp only [Array.getElem?_push]; rw [if_neg (by omega)]; rfl
        · exact hp.drew
        · have := hcells
          simp only [Sg.snoc] at this
          rw [this]
          have e1 : ((bs.data.map fun (b : UInt8) => Value.int .u8 (b.toNat : Int)).toList ++ List.replicate k (Value.int .u8 0)).toArray = arr := by rw [harr]; apply Array.ext'; simp
          rw [e1]
          show (w.heap.push _)[w.heap.size]? = _
          simp
      · simp [SV.den, Sg.snoc_blk, Sg.snoc_cap]
      · simp [SV.inside]
    · cases h
  · cases h
/-- A block that is nothing. -/
theorem Post.addN {σ : Sg} {H : Hp} {w : World} (h : HRel P ρ σ H w) (n : Nat) : Post P ρ σ (σ.snocP H.length ⟨w.heap.size, 0, n, none⟩) H (H ++ [none]) [] w w := by
  have ha := σ.snocP_agree H.length ⟨w.heap.size, 0, n, none⟩
  have hlt : ∀ {b : Nat} {y : Blk}, H[b]? = some (some y) → b < H.length := fun hb => (List.getElem?_eq_some_iff.1 hb).1
  refine ⟨ha, by simp, ⟨fun b y hb => ?_, fun b b' y y' hb hb' hs hg hg' he => ?_⟩, fun b h1 h2 hg => .inl ?_, rfl, rfl, rfl, Nat.le_refl _, Kd.same fun _ _ => rfl, fun k hk _ => rfl, fun b hb _ => ?_⟩
  · rw [getElem?_snoc] at hb
    split at hb
    · cases hb
    · have hl := hlt hb
      obtain ⟨hi, hat⟩ := h.blk b y hb
      refine ⟨insideL_mono (by simp) _ hi, ?_⟩
      rw [ha.pl hl]
      exact hat.to (denL_agree ha _ hi) fun _ => rfl
  · rw [getElem?_snoc] at hb hb'
    split at hb
    · cases hb
    · split at hb'
      · cases hb'
      · have hl := hlt hb
        have hl' := hlt hb'
        rw [ha.gh hl] at hg
        rw [ha.gh hl'] at hg'
        rw [(ha b hl).1, (ha b' hl').1] at he
        exact h.inj b b' y y' hb hb' hs hg hg' he
  · have e : b = H.length := by simp at h2; omega
    subst e
    simp [Sg.snocP]
  · rw [getElem?_snoc, if_neg (by omega)]
/-- A NaN in double precision. -/
def evNan (P : Program) (Γ : Facts) (s d : TypeId) (x : SV) (H : Hp) : Option Out := match P.underlying s, P.underlying d, x with
  | some _, some (.float .f64), .float .f32 e => if res Γ (.fcmp .f32 .neq e e) = some true then some (.nanf H.length, H ++ [none], []) else none
  | _, _, _ => none
theorem nan_ok (hΓ : Γ.Holds P ρ) {σ : Sg} {H : Hp} {w : World} (hr : HRel P ρ σ H w) {s d : TypeId} {x : SV} {r : Out} (h : evNan P Γ s d x H = some r) :
    ∃ u w', (convert s d (x.den ρ σ)).run P w = .ok u w' ∧ Good P ρ σ H r w u w' := by
  unfold evNan at h
  split at h
  · rename_i us e hs hd
    split at h
    · rename_i hc
      cases h
      obtain ⟨n, hn, hrun⟩ := nan_run (P := P) (eq_nan (res_den hΓ hc)) w
      refine ⟨.float .f64 n, w.drew, ?_, σ.snocP H.length ⟨w.drew.heap.size, 0, n, none⟩, (Post.addN hr.drew n).drew, ?_, ?_⟩
      · simp only [SV.den, convert, Sem.run_bind, run_underlying hs, run_underlying hd, Result.andThen_ok]
        rw [← hrun]
        try (cases us <;> rfl)
      · simp [SV.den, Sg.snocP, nanOf_self hn]
      · simp [SV.inside]
    · cases h
  · cases h
/-- Operations that look at rows, and at texts that are not known. -/
def evOpR (P : Program) (Γ : Facts) (T : List SV) (H : Hp) (o : Oper) : Option Out :=
  let u (v : Option SV) : Option Out := v.map fun v => (v, H, [])
  match o.op with
  | .load t x => (match evO T x with
    | some (.eptr b i st c) => u (evLoadR P Γ t b i st c H)
    | _ => none)
  | .store t x y => (match evO T x with
    | some (.eptr b i st c) => (evO T y).bind fun v => (evStoreR P Γ t b i st c v H).map fun r => (uS, r.1, r.2)
    | _ => none)
  | .nilCheck x => (match evO T x with
    | some (.eptr b i st c) => some (.eptr b i st c, H, [])
    | _ => none)
  | .fieldAddr s x f => u ((evO T x).bind fun X => evFieldR P s X f)
  | .indexAddr t x i => u ((evO T x).bind fun X => (evO T i).bind fun I => match evIndexR P Γ t X I H with
    | some v => some v
    | none => match evIndexV P t X I H with
      | some v => some v
      | none => evIndexP P Γ t X I H)
  | .index t x i => u ((evO T x).bind fun X => (evO T i).bind fun I => evIndexS P Γ t X I)
  | .binOp op t x y _ => u ((evO T x).bind fun X => (evO T y).bind fun Y => evNil P Γ op t X Y H)
  | .convert s d x => (evO T x).bind fun X => (match evBytes P s d X H with
    | some r => some r
    | none => evNan P Γ s d X H)
  | .slice t x lo hi mx => (evO T x).bind fun X => (evOpt T lo).bind fun lo => (evOpt T hi).bind fun hi => (evOpt T mx).bind fun mx => (match mx with
    | none => u (match evSliceV P t X lo hi H with
      | some v => some v
      | none => evSliceR P Γ t X lo hi H)
    | some m => evSlice3 P t X lo hi (some m) H)
  | .call c => (match c.callee with
    | .builtin b => (evOs T c.args.toList).bind fun args => (match b, args with
      | .append, args => evAppendR P Γ c.argTypes args H
      | .len, [x] => (c.argTypes[0]?).bind fun t => (evLenR P Γ t x H).map fun n => (.int .i64 n, H, [])
      | _, _ => none)
    | _ => none)
  | _ => none
theorem evOpR_ok (hΓ : Γ.Holds P ρ) {T : List SV} {H : Hp} {o : Oper} {r : Out} (h : evOpR P Γ T H o = some r) {σ : Sg} {a : Act} {w : World} (hT : TRel ds ρ σ H.length T a) (hr : HRel P ρ σ H w) :
    ORes P ((execOp a.eval o).run P w) (Good P ρ σ H r w) := by
  obtain ⟨dst, op, ty, pos, after, guard⟩ := o
  unfold evOpR at h
  cases op <;> simp only at h
  case load t x =>
    split at h
    · rename_i b i st c had
      obtain ⟨v, hv, rfl⟩ := Option.map_eq_some_iff.1 h
      obtain ⟨e, s⟩ := evO_den hT had
      obtain ⟨h1, h2⟩ := loadR_ok hΓ hr hv
      refine ores_val (u := v.den ρ σ) (w' := w) ?_ (good_same hr h2)
      simp only [Instr.loadAt, e, SV.den, Instr.sureAddr, Sem.run_bind, Sem.run_pure, Result.andThen_ok, h1]
    · cases h
  case store t x y =>
    split at h
    · rename_i b i st c had
      obtain ⟨v, hv, h⟩ := Option.bind_eq_some_iff.1 h
      obtain ⟨⟨H', W⟩, hs, rfl⟩ := Option.map_eq_some_iff.1 h
      obtain ⟨e, s⟩ := evO_den hT had
      obtain ⟨e2, s2⟩ := evO_den hT hv
      obtain ⟨w', hrun, hp⟩ := storeR_ok hΓ hr (evO_any hv) hs
      simp only [execOp, Instr.storeAt, e, e2, SV.den, Instr.sureAddr, Sem.run_bind, Sem.run_pure, Result.andThen_ok]
      rw [hrun]
      exact ⟨σ, hp, rfl, rfl⟩
    · cases h
  case nilCheck x =>
    split at h
    · rename_i b i st c had
      cases h
      obtain ⟨e, s⟩ := evO_den hT had
      simp only [execOp, e, SV.den, Sem.run_pure]
      exact good_same (v := .eptr b i st c) hr s
    · cases h
  case binOp op t x y yt =>
    obtain ⟨v, hv, rfl⟩ := Option.map_eq_some_iff.1 h
    obtain ⟨X, hX, hv⟩ := Option.bind_eq_some_iff.1 hv
    obtain ⟨Y, hY, hv⟩ := Option.bind_eq_some_iff.1 hv
    obtain ⟨e1, _⟩ := evO_den hT hX
    obtain ⟨e2, _⟩ := evO_den hT hY
    obtain ⟨h1, h2⟩ := nil_ok hΓ hr hv
    simp only [execOp, e1, e2]
    exact ores_runs hr h1 (h2 _)
  case slice t x lo hi mx =>
    obtain ⟨X, hX, h⟩ := Option.bind_eq_some_iff.1 h
    obtain ⟨L, hL, h⟩ := Option.bind_eq_some_iff.1 h
    obtain ⟨R, hR, h⟩ := Option.bind_eq_some_iff.1 h
    obtain ⟨M, hM, h⟩ := Option.bind_eq_some_iff.1 h
    obtain ⟨e1, s1⟩ := evO_den hT hX
    split at h
    · obtain ⟨v, hv, rfl⟩ := Option.map_eq_some_iff.1 h
      split at hv
      · rename_i v' hv'
        cases hv
        obtain ⟨hrun, hin⟩ := sliceV_ok (P := P) (ρ := ρ) hr hv'
        simp only [execOp, e1, evOpt_den hT hL, evOpt_den hT hR, evOpt_den hT hM]
        exact ores_val hrun (good_same hr (hin _ s1))
      · obtain ⟨hrun, hin⟩ := sliceR_ok hΓ hr hv
        simp only [execOp, e1, evOpt_den hT hL, evOpt_den hT hR, evOpt_den hT hM]
        exact ores_val hrun (good_same hr (hin _ s1))
    · obtain ⟨u, hrun, hg⟩ := slice3_ok (P := P) (ρ := ρ) hr s1 h
      simp only [execOp, e1, evOpt_den hT hL, evOpt_den hT hR, evOpt_den hT hM]
      exact ores_val hrun hg
  case convert s d x =>
    obtain ⟨X, hX, h⟩ := Option.bind_eq_some_iff.1 h
    obtain ⟨e1, s1⟩ := evO_den hT hX
    simp only [execOp, e1]
    split at h
    · rename_i hb
      cases h
      obtain ⟨u, w', hrun, hg⟩ := bytes_ok (P := P) (ρ := ρ) hr hb
      exact ores_val hrun hg
    · obtain ⟨u, w', hrun, hg⟩ := nan_ok (P := P) (ρ := ρ) hΓ hr h
      exact ores_val hrun hg
  case fieldAddr s x f =>
    obtain ⟨v, hv, rfl⟩ := Option.map_eq_some_iff.1 h
    obtain ⟨X, hX, hv⟩ := Option.bind_eq_some_iff.1 hv
    obtain ⟨e, s'⟩ := evO_den hT hX
    obtain ⟨h1, h2⟩ := fieldR_ok (P := P) (ρ := ρ) (σ := σ) hv
    simp only [execOp, e]
    exact ores_runs hr h1 (h2 _ s')
  case indexAddr t x i =>
    obtain ⟨v, hv, rfl⟩ := Option.map_eq_some_iff.1 h
    obtain ⟨X, hX, hv⟩ := Option.bind_eq_some_iff.1 hv
    obtain ⟨I, hI, hv⟩ := Option.bind_eq_some_iff.1 hv
    obtain ⟨e1, s1⟩ := evO_den hT hX
    obtain ⟨e2, _⟩ := evO_den hT hI
    split at hv
    · rename_i v' hv'
      cases hv
      obtain ⟨h1, h2⟩ := indexR_ok hΓ hr hv'
      simp only [execOp, e1, e2]
      exact ores_val h1 (good_same hr (h2 _ s1))
    · split at hv
      · rename_i v' hv'
        cases hv
        obtain ⟨h1, h2⟩ := indexV_ok (P := P) (ρ := ρ) hr hv'
        simp only [execOp, e1, e2]
        exact ores_val h1 (good_same hr (h2 _ s1))
      · obtain ⟨h1, h2⟩ := indexP_ok hΓ hr hv
        simp only [execOp, e1, e2]
        exact ores_val h1 (good_same hr (h2 _ s1))
  case index t x i =>
    obtain ⟨v, hv, rfl⟩ := Option.map_eq_some_iff.1 h
    obtain ⟨X, hX, hv⟩ := Option.bind_eq_some_iff.1 hv
    obtain ⟨I, hI, hv⟩ := Option.bind_eq_some_iff.1 hv
    obtain ⟨e1, s1⟩ := evO_den hT hX
    obtain ⟨e2, _⟩ := evO_den hT hI
    obtain ⟨h1, h2⟩ := indexS_ok (P := P) hΓ (σ := σ) hv
    simp only [execOp, e1, e2]
    exact ores_runs hr h1 (h2 _)
  case call c =>
    obtain ⟨callee, args, ats⟩ := c
    cases callee with
    | invoke x name => cases h
    | value f => cases h
    | builtin b =>
      simp only at h
      obtain ⟨vs, hvs, h⟩ := Option.bind_eq_some_iff.1 h
      obtain ⟨e, s⟩ := evOs_den hT hvs
      have g : args.map a.eval = (denL ρ σ vs).toArray := by rw [← e, map_arr]
      simp only [execOp, resolve, g, Sem.run_bind, Sem.run_pure, Result.andThen_ok, invoke]
      split at h
      · obtain ⟨u, w', hrun, hg⟩ := evAppendR_ok (rt := ty) hΓ hr h
        simp only [builtin, Sem.run_bind, hrun, Result.andThen_ok, Sem.run_pure]; exact hg
      · obtain ⟨t, ht, h⟩ := Option.bind_eq_some_iff.1 h
        obtain ⟨n, hn, rfl⟩ := Option.map_eq_some_iff.1 h
        simp only [builtin, denL, Sem.run_bind, lenR_ok hΓ hr hn ht ty, Result.andThen_ok, Sem.run_pure]
        exact good_same (v := .int .i64 n) hr rfl
      · cases h
  all_goals cases h
def evOp (P : Program) (Γ : Facts) (call : CallF) (T : List SV) (H : Hp) (o : Oper) : Option Out := match evOp0 P Γ call T H o with
  | some r => some r
  | none => evOpR P Γ T H o
theorem evOp_ok (hΓ : Γ.Holds P ρ) {call : CallF} (hc : CallOk P ρ call) {T : List SV} {H : Hp} {o : Oper} {r : Out} (h : evOp P Γ call T H o = some r) {σ : Sg} {a : Act} {w : World} (hT : TRel ds ρ σ H.length T a) (hr : HRel P ρ σ H w) :
    ORes P ((execOp a.eval o).run P w) (Good P ρ σ H r w) := by
  unfold evOp at h
  split at h
  · rename_i r' h0; cases h; exact evOp0_ok hΓ hc h0 hT hr
  · exact evOpR_ok hΓ h hT hr
theorem evOp_defer {call : CallF} {T : List SV} {H : Hp} {o : Oper} {r : Out} (h : evOp P Γ call T H o = some r) : ∀ c, o.op ≠ .defer c := by
  rintro c hc
  obtain ⟨dst, op, ty, pos, after, guard⟩ := o
  simp only at hc
  subst hc
  simp [evOp, evOp0, evOpR] at h
end Go.Proofs.Ytafnplkablkepaa.Ev
