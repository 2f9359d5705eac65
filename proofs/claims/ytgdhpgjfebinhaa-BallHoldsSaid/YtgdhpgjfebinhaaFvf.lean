/- The symbolic machine's memory: loads, stores, new blocks, addresses, slices. -/
import Derived.Test.YtgdhpgjfebinhaaFve
namespace Go.Proofs.Ytgdhpgjfebinhaa.Ev
set_option linter.unusedSimpArgs false
open Go Go.RowKit
set_option linter.unusedVariables false
variable {P : Program} {ρ : Env} {Γ : Facts}

def getB (H : Hp) (b : Nat) : Option Blk := (H[b]?).join
theorem getB_some {H : Hp} {b : Nat} {x : Blk} (h : getB H b = some x) : H[b]? = some (some x) := by
  unfold getB at h
  cases e : H[b]? with
  | none => rw [e] at h; cases h
  | some y => rw [e] at h; simp at h; rw [h]

/-- A block that is no row; a row. -/
def getC (H : Hp) (b : Nat) : Option Blk := match getB H b with
  | some x => if x.abs.isNone && !x.isRec then some x else none
  | none => none
def getA (H : Hp) (b : Nat) : Option (Blk × Abs) := match getB H b with
  | some x => x.abs.map fun A => (x, A)
  | none => none
theorem getC_some {H : Hp} {b : Nat} {x : Blk} (h : getC H b = some x) : H[b]? = some (some x) ∧ x.abs = none ∧ x.isRec = false := by
  unfold getC at h
  split at h
  · rename_i y hy
    split at h
    · rename_i hn; cases h; simp only [Bool.and_eq_true, Option.isNone_iff_eq_none, Bool.not_eq_true'] at hn; exact ⟨getB_some hy, hn.1, hn.2⟩
    · cases h
  · cases h
theorem getA_some {H : Hp} {b : Nat} {x : Blk} {A : Abs} (h : getA H b = some (x, A)) : H[b]? = some (some x) ∧ x.abs = some A := by
  unfold getA at h
  split at h
  · rename_i y hy
    obtain ⟨B, hB, he⟩ := Option.map_eq_some_iff.1 h
    cases he
    exact ⟨getB_some hy, hB⟩
  · cases h
theorem HRel.conR {σ : Sg} {H : Hp} {w : World} (hr : HRel P ρ σ H w) {b : Nat} {x : Blk} (h : getC H b = some x) :
    insideL H.length x.cells = true ∧ ∃ (rest : List Value) (fr : Nat × Nat), w.heap[σ.blk b]? = some (.cells (denL ρ σ x.cells ++ rest).toArray x.elem fr) ∧ (x.opn = false → x.ro = false → rest = []) ∧ (x.opn = true → x.cells.length + rest.length = σ.cap b * P.cellsOf x.elem) ∧ (x.ro = false → fr = (0, 0)) := by
  obtain ⟨h1, h2⟩ := getC_some h
  obtain ⟨hi, hat⟩ := hr.blk b x h1
  exact ⟨hi, (hat.con h2.1 h2.2).at_⟩
theorem HRel.con {σ : Sg} {H : Hp} {w : World} (hr : HRel P ρ σ H w) {b : Nat} {x : Blk} (h : getC H b = some x) (hro : x.ro = false) :
    insideL H.length x.cells = true ∧ ∃ rest : List Value, w.heap[σ.blk b]? = some (.cells (denL ρ σ x.cells ++ rest).toArray x.elem (0, 0)) ∧ (x.opn = false → rest = []) ∧ (x.opn = true → x.cells.length + rest.length = σ.cap b * P.cellsOf x.elem) := by
  obtain ⟨h1, rest, fr, h2, h3, h4, h5⟩ := hr.conR h
  obtain rfl := h5 hro
  exact ⟨h1, rest, h2, (fun h => h3 h hro), h4⟩
theorem HRel.row {σ : Sg} {H : Hp} {w : World} (hr : HRel P ρ σ H w) {b : Nat} {x : Blk} {A : Abs} (h : getA H b = some (x, A)) : RowAt P ρ x A (σ.pl b) w := by
  obtain ⟨h1, h2⟩ := getA_some h
  exact (hr.blk b x h1).2.row A h2

def evLoad (P : Program) (t : TypeId) (a : Addr) (H : Hp) : Option SV := if a.spot = none then do
  let x ← getC H a.block
  let i ← P.info? t
  let d ← P.underlying t
  if aggD d then (if a.off + i.size ≤ x.cells.length then some (.agg ((x.cells.drop a.off).take i.size)) else none) else x.cells[a.off]?
  else none

theorem addr_none {σ : Sg} {a : Addr} (h : a.spot = none) : σ.addr a = ⟨σ.blk a.block, a.off, none⟩ := by
  unfold Sg.addr; obtain ⟨b, o, s⟩ := a; simp at h; subst h; rfl

theorem cell_of {w : World} {k j : Nat} {L : List Value} {t : TypeId} {fr : Nat × Nat} (h : w.heap[k]? = some (.cells L.toArray t fr)) : w.cell? ⟨k, j, none⟩ = L[j]? := by
  simp [World.cell?, h]

theorem load_ok {σ : Sg} {H : Hp} {w : World} (hr : HRel P ρ σ H w) {t : TypeId} {a : Addr} {v : SV} (h : evLoad P t a H = some v) :
    (loadVar t (σ.addr a)).run P w = .ok (v.den ρ σ) w ∧ v.inside H.length = true := by
  unfold evLoad at h
  simp only [Option.bind_eq_bind, Option.bind_eq_some_iff, Option.ite_none_right_eq_some] at h
  obtain ⟨hs, x, hx, i, hi, d, hd, h⟩ := h
  obtain ⟨hin, rest, _, hb, _⟩ := hr.conR hx
  rw [addr_none hs]
  split at h
  · rename_i ha
    split at h
    · rename_i hle
      cases h
      refine ⟨?_, insideL_of fun v hv => insideL_mem hin (List.mem_of_mem_drop (List.mem_of_mem_take hv))⟩
      have hl := run_loadCells_list (P := P) w ⟨σ.blk a.block, a.off, none⟩ (denL ρ σ ((x.cells.drop a.off).take i.size)) (fun j v hv => by
        rw [addr_add, cell_of hb]
        rw [denL_map] at hv ⊢
        rw [List.getElem?_append_left]
        · rw [List.map_take, List.getElem?_take] at hv
          split at hv
          · rw [List.map_drop, List.getElem?_drop] at hv; exact hv
          · cases hv
        · rw [List.map_take, List.getElem?_take] at hv
          split at hv
          · simp; omega
          · cases hv)
      have hlen : (denL ρ σ ((x.cells.drop a.off).take i.size)).length = i.size := by simp [denL_length]; omega
      rw [hlen] at hl
      simp [loadVar, run_isAgg hd w, ha, run_sizeOf hi w, hl, SV.den]
    · cases h
  · rename_i ha
    refine ⟨?_, insideL_mem hin (List.mem_of_getElem? h)⟩
    have hc : w.cell? ⟨σ.blk a.block, a.off, none⟩ = some (v.den ρ σ) := by
      have hlt := (List.getElem?_eq_some_iff.1 h).1
      rw [cell_of hb, List.getElem?_append_left (by rw [denL_length]; exact hlt), denL_map, List.getElem?_map, h]; rfl
    simp [loadVar, run_isAgg hd w, ha, hc]

def evStore (P : Program) (t : TypeId) (a : Addr) (v : SV) (H : Hp) : Option (Hp × List Nat) := if a.spot = none then do
  let x ← getC H a.block
  let i ← P.info? t
  if x.ro = false ∧ i.size = v.cells.length ∧ v.cells.all SV.isCell = true ∧ a.off + v.cells.length ≤ x.cells.length then some (H.set a.block (some { x with cells := setL x.cells a.off v.cells }), [a.block]) else none
  else none

theorem store_ok {σ : Sg} {H H' : Hp} {W : List Nat} {w : World} (hr : HRel P ρ σ H w) {t : TypeId} {a : Addr} {v : SV} (hv0 : v.isAny = false) (hv : v.inside H.length = true) (h : evStore P t a v H = some (H', W)) :
    ∃ w', (storeVar t (σ.addr a) (v.den ρ σ)).run P w = .ok () w' ∧ Post P ρ σ σ H H' W w w' := by
  unfold evStore at h
  simp only [Option.bind_eq_bind, Option.bind_eq_some_iff, Option.ite_none_right_eq_some, Option.some.injEq, Prod.mk.injEq] at h
  obtain ⟨hs, x, hx, i, hi, ⟨hro, hsz, hc, hle⟩, rfl, rfl⟩ := h
  have hx' := getC_some hx
  obtain ⟨hin, rest, hb, _, _⟩ := hr.con hx hro
  obtain ⟨w', hrun, hu⟩ := run_storeCells (P := P) (k := σ.blk a.block) (off := a.off) (denL ρ σ v.cells) 0 (denL ρ σ x.cells ++ rest) w (fun u hu => by
    rw [denL_map] at hu
    obtain ⟨y, hy, rfl⟩ := List.mem_map.1 hu
    exact SV.isCell_den (List.all_eq_true.1 hc y hy)) hb (by simp [denL_length]; omega)
  refine ⟨w', ?_, Post.put hr hx'.1 hx'.2.1 hx'.2.2 (SV.cells_inside hv) hle hb (by simpa using hu)⟩
  rw [addr_none hs]
  simp [storeVar, run_sizeOf hi w, SV.cells_den _ _ _ hv0, denL_length, hsz, hrun]

/-- A new block. -/
theorem newRow_ok {σ : Sg} {H : Hp} {w : World} (hr : HRel P ρ σ H w) (t : TypeId) {cs : List SV} (hc : insideL H.length cs = true) :
    ∃ σ' w', (newRow t (denL ρ σ cs).toArray).run P w = .ok ⟨σ'.blk H.length, 0, none⟩ w' ∧ Post P ρ σ σ' H (H ++ [some ⟨cs, t, false, false, none⟩]) [] w w' := by
  refine ⟨_, _, ?_, Post.alloc hr cs t hc⟩
  simp [newRow, newObj, Sem.run, Sg.snoc_blk]

def evAddr : Option SV → Option Addr
  | some (.ptr (some a)) => some a
  | _ => none
theorem evAddr_some {x : Option SV} {a : Addr} (h : evAddr x = some a) : x = some (.ptr (some a)) := by
  unfold evAddr at h; split at h
  · cases h; rfl
  · cases h

def evField (P : Program) (s : TypeId) (a : Addr) (f : Nat) : Option Addr := do
  let d ← P.underlying s
  match d with
  | .struct fs => do
    let fd ← fs[f]?
    let i ← P.info? fd.type
    if i.size ≠ 0 ∧ a.spot = none then some ⟨a.block, a.off + fd.offset, none⟩ else none
  | _ => none
theorem field_ok {σ : Sg} {s : TypeId} {a a' : Addr} {f : Nat} (h : evField P s a f = some a') : Runs P (Instr.fieldAt s (.pointer (some (σ.addr a))) f) (.pointer (some (σ.addr a'))) ∧ a'.block = a.block := by
  unfold evField at h
  simp only [Option.bind_eq_bind, Option.bind_eq_some_iff] at h
  obtain ⟨d, hd, h⟩ := h
  split at h
  · simp only [Option.bind_eq_some_iff, Option.ite_none_right_eq_some, Option.some.injEq] at h
    obtain ⟨fd, hf, i, hi, ⟨hz, hs⟩, rfl⟩ := h
    refine ⟨fun w => ?_, rfl⟩
    rw [addr_none hs, addr_none rfl]
    simp [Instr.fieldAt, run_underlying hd, hf, Instr.sureAddr, fieldPlace, run_sizeOf hi w, hz, addr_add]
  · cases h

/-- The number in a value, if it is known. -/
def litI : SV → Option Int
  | .int _ (.lit n) => some n
  | _ => none
theorem litI_den {v : SV} {n : Int} (h : litI v = some n) (σ : Sg) : ∃ k, v.den ρ σ = .int k n := by
  unfold litI at h; split at h
  · cases h; exact ⟨_, rfl⟩
  · cases h

def evIndexAt (P : Program) (t : TypeId) (x : SV) (i : SV) : Option Addr := do
  let n ← litI i
  let d ← P.underlying t
  match d, x with
  | .array len e, .ptr (some a) => do
    let ti ← P.info? e
    if 0 ≤ n ∧ n < len ∧ a.spot = none then some ⟨a.block, a.off + n.toNat * ti.size, none⟩ else none
  | .slice e, .slice (some a) len _ => do
    let ti ← P.info? e
    if 0 ≤ n ∧ n < len ∧ a.spot = none then some ⟨a.block, a.off + n.toNat * ti.size, none⟩ else none
  | .slice e, .vec b len => do
    let ti ← P.info? e
    if 0 ≤ n ∧ n < len then some ⟨b, n.toNat * ti.size, none⟩ else none
  | _, _ => none
theorem indexAt_ok {σ : Sg} {t : TypeId} {x i : SV} {a : Addr} (h : evIndexAt P t x i = some a) : Runs P (Instr.indexAt t (x.den ρ σ) (i.den ρ σ)) (.pointer (some (σ.addr a))) ∧ ∀ m, x.inside m = true → a.block < m := by
  unfold evIndexAt at h
  simp only [Option.bind_eq_bind, Option.bind_eq_some_iff] at h
  obtain ⟨n, hn, d, hd, h⟩ := h
  obtain ⟨k, hk⟩ := litI_den (ρ := ρ) hn σ
  rw [hk]
  split at h
  · simp only [Option.bind_eq_some_iff, Option.ite_none_right_eq_some, Option.some.injEq] at h
    obtain ⟨ti, hi, ⟨h0, h1, hs⟩, rfl⟩ := h
    refine ⟨fun w => ?_, fun m hm => of_decide_eq_true hm⟩
    simp only [SV.den, Option.map_some]
    rw [addr_none hs, addr_none rfl]
    simp [Instr.indexAt, asIntOf, run_underlying hd, Instr.sureAddr, h0, h1, run_sizeOf hi w, addr_add]
  · simp only [Option.bind_eq_some_iff, Option.ite_none_right_eq_some, Option.some.injEq] at h
    obtain ⟨ti, hi, ⟨h0, h1, hs⟩, rfl⟩ := h
    refine ⟨fun w => ?_, fun m hm => of_decide_eq_true hm⟩
    simp only [SV.den, Option.map_some]
    rw [addr_none hs, addr_none rfl]
    simp [Instr.indexAt, asIntOf, run_underlying hd, Instr.sureAddr, h0, h1, run_sizeOf hi w, addr_add]
  · simp only [Option.bind_eq_some_iff, Option.ite_none_right_eq_some, Option.some.injEq] at h
    obtain ⟨ti, hi, ⟨h0, h1⟩, rfl⟩ := h
    refine ⟨fun w => ?_, fun m hm => of_decide_eq_true hm⟩
    simp only [SV.den]
    rw [addr_none rfl]
    simp [Instr.indexAt, asIntOf, run_underlying hd, Instr.sureAddr, h0, h1, run_sizeOf hi w, addr_add]
  · cases h

def evIndex (P : Program) (t : TypeId) (x : SV) (i : SV) : Option SV := do
  let n ← litI i
  let d ← P.underlying t
  match d, x with
  | .array len e, .agg cs => do
    let ti ← P.info? e
    if 0 ≤ n ∧ n < len then partS P e cs (n.toNat * ti.size) else none
  | .string, .str s => if 0 ≤ n then (s[n.toNat]?).map fun b => .int .u8 (.lit b.toNat) else none
  | _, _ => none
theorem index_ok {σ : Sg} {t : TypeId} {x i v : SV} (h : evIndex P t x i = some v) : Runs P (Instr.index t (x.den ρ σ) (i.den ρ σ)) (v.den ρ σ) ∧ ∀ m, x.inside m = true → v.inside m = true := by
  unfold evIndex at h
  simp only [Option.bind_eq_bind, Option.bind_eq_some_iff] at h
  obtain ⟨n, hn, d, hd, h⟩ := h
  obtain ⟨k, hk⟩ := litI_den (ρ := ρ) hn σ
  rw [hk]
  split at h
  · simp only [Option.bind_eq_some_iff, Option.ite_none_right_eq_some] at h
    obtain ⟨ti, hi, ⟨h0, h1⟩, hp⟩ := h
    obtain ⟨hr, hin⟩ := part_ok (ρ := ρ) hp σ
    refine ⟨fun w => ?_, fun m hm => hin m hm⟩
    simp [SV.den, Instr.index, asIntOf, run_underlying hd, h0, h1, run_sizeOf hi w, hr w]
  · split at h
    · rename_i h0
      obtain ⟨b, hb, rfl⟩ := Option.map_eq_some_iff.1 h
      refine ⟨fun w => ?_, fun m _ => rfl⟩
      simp [SV.den, NE.den, Instr.index, asIntOf, run_underlying hd, h0, hb]
    · cases h
  · cases h

def evFieldV (P : Program) (t : TypeId) (x : SV) (f : Nat) : Option SV := do
  let d ← P.underlying t
  match d, x with
  | .struct fs, .agg cs => do
    let fd ← fs[f]?
    partS P fd.type cs fd.offset
  | _, _ => none
theorem fieldV_ok {σ : Sg} {t : TypeId} {x v : SV} {f : Nat} (h : evFieldV P t x f = some v) : Runs P (Instr.field t (x.den ρ σ) f) (v.den ρ σ) ∧ ∀ m, x.inside m = true → v.inside m = true := by
  unfold evFieldV at h
  simp only [Option.bind_eq_bind, Option.bind_eq_some_iff] at h
  obtain ⟨d, hd, h⟩ := h
  split at h
  · simp only [Option.bind_eq_some_iff] at h
    obtain ⟨fd, hf, hp⟩ := h
    obtain ⟨hr, hin⟩ := part_ok (ρ := ρ) hp σ
    refine ⟨fun w => ?_, fun m hm => hin m hm⟩
    simp [SV.den, Instr.field, run_underlying hd, hf, asAgg, hr w]
  · cases h

def evExtract (x : SV) (i : Nat) : Option SV := match x with
  | .tuple vs => vs[i]?
  | _ => none
theorem extract_ok {σ : Sg} {x v : SV} {i : Nat} (h : evExtract x i = some v) : Runs P (Instr.extract (x.den ρ σ) i) (v.den ρ σ) ∧ ∀ m, x.inside m = true → v.inside m = true := by
  unfold evExtract at h
  split at h
  · refine ⟨fun w => ?_, fun m hm => insideL_mem hm (List.mem_of_getElem? h)⟩
    simp [SV.den, Instr.extract, denL_map, h]
  · cases h

/-- Whether a number surely is from 0 to below another one. -/
def inR (Γ : Facts) (i n : NE) : Bool := (res Γ (mkIcmp .leq (.lit 0) i) == some true) && (res Γ (mkIcmp .lss i n) == some true)
theorem inR_ok (hΓ : Γ.Holds P ρ) {i n : NE} (h : inR Γ i n = true) : 0 ≤ i.den ρ ∧ i.den ρ < n.den ρ := by
  simp only [inR, Bool.and_eq_true, beq_iff_eq] at h
  have h1 := res_den hΓ h.1
  have h2 := res_den hΓ h.2
  rw [mkIcmp_den] at h1 h2
  simp only [COp.int, NE.den] at h1 h2
  exact ⟨of_decide_eq_true h1, of_decide_eq_true h2⟩

theorem RowAt.cell {x : Blk} {A : Abs} {p : Pl} {w : World} (h : RowAt P ρ x A p w) {j : Int} (h0 : 0 ≤ j) (h1 : j < A.n.den ρ) {i : Nat} (hi : i < A.sh.length) :
    w.cell? ⟨p.blk, p.off + j.toNat * A.sh.length + i, none⟩ = (cellsV ρ j A.sh A.cols)[i]? := by
  have hg : p.gh = none := by
    cases hg : p.gh with
    | none => rfl
    | some a => have := h.gh a hg; omega
  obtain ⟨c, t, fr, hw, hc, _⟩ := h.at_ hg
  have := hc j.toNat i (by omega) hi
  rw [Int.toNat_of_nonneg h0] at this
  simp [World.cell?, hw, this]
theorem RowAt.cells {x : Blk} {A : Abs} {p : Pl} {w : World} (h : RowAt P ρ x A p w) (σ : Sg) {i : NE} (h0 : 0 ≤ i.den ρ) (h1 : i.den ρ < A.n.den ρ) (c n : Nat) (hn : c + n ≤ A.sh.length) :
    (loadCells ⟨p.blk, p.off + (i.den ρ).toNat * A.sh.length + c, none⟩ n).run P w = .ok (denL ρ σ (((cellsE i A.sh A.cols).drop c).take n)).toArray w := by
  have hd : denL ρ σ (((cellsE i A.sh A.cols).drop c).take n) = ((cellsV ρ (i.den ρ) A.sh A.cols).drop c).take n := by
    rw [denL_map, List.map_take, List.map_drop, ← denL_map, cellsE_den]
  have hl : (cellsV ρ (i.den ρ) A.sh A.cols).length = A.sh.length := fitC_len ρ _ _ _ h.fit
  have := run_loadCells_list (P := P) w ⟨p.blk, p.off + (i.den ρ).toNat * A.sh.length + c, none⟩ (((cellsV ρ (i.den ρ) A.sh A.cols).drop c).take n) (fun j v hv => by
    rw [List.getElem?_take] at hv
    split at hv
    · rw [List.getElem?_drop] at hv
      rw [addr_add, Nat.add_assoc, h.cell h0 h1 (by omega)]
      exact hv
    · cases hv)
  have hl2 : (((cellsV ρ (i.den ρ) A.sh A.cols).drop c).take n).length = n := by simp [hl]; omega
  rw [hl2] at this
  rw [hd]; exact this

def evLoadR (P : Program) (Γ : Facts) (t : TypeId) (b : Nat) (i : NE) (st c : Nat) (H : Hp) : Option SV := do
  let q ← getA H b
  let ti ← P.info? t
  let d ← P.underlying t
  if st = q.2.sh.length ∧ inR Γ i q.2.n = true then
    (if aggD d then (if c + ti.size ≤ st then some (.agg (((cellsE i q.2.sh q.2.cols).drop c).take ti.size)) else none)
    else if c < st then (cellsE i q.2.sh q.2.cols)[c]? else none)
  else none
theorem loadR_ok (hΓ : Γ.Holds P ρ) {σ : Sg} {H : Hp} {w : World} (hr : HRel P ρ σ H w) {t : TypeId} {b : Nat} {i : NE} {st c : Nat} {v : SV} (h : evLoadR P Γ t b i st c H = some v) :
    (loadVar t ⟨σ.blk b, σ.off b + (i.den ρ).toNat * st + c, none⟩).run P w = .ok (v.den ρ σ) w ∧ v.inside H.length = true := by
  unfold evLoadR at h
  simp only [Option.bind_eq_bind, Option.bind_eq_some_iff, Option.ite_none_right_eq_some] at h
  obtain ⟨⟨x, A⟩, hx, ti, hi, d, hd, ⟨hst, hin⟩, h⟩ := h
  have R := hr.row hx
  obtain ⟨h0, h1⟩ := inR_ok hΓ hin
  simp only at hst h0 h1 h
  have hl : (cellsV ρ (i.den ρ) A.sh A.cols).length = A.sh.length := fitC_len ρ _ _ _ R.fit
  split at h
  · rename_i ha
    split at h
    · rename_i hle
      cases h
      refine ⟨?_, insideL_of fun v hv => insideL_mem (cellsE_inside _ i A.sh A.cols) (List.mem_of_mem_drop (List.mem_of_mem_take hv))⟩
      have := R.cells σ h0 h1 c ti.size (by omega)
      simp only [Sg.pl] at this
      rw [hst]
      simp [loadVar, run_isAgg hd w, ha, run_sizeOf hi w, this, SV.den]
    · cases h
  · rename_i ha
    split at h
    · rename_i hlt
      refine ⟨?_, insideL_mem (cellsE_inside _ i A.sh A.cols) (List.mem_of_getElem? h)⟩
      have hc := R.cell h0 h1 (i := c) (by omega)
      have e : (cellsV ρ (i.den ρ) A.sh A.cols)[c]? = some (v.den ρ σ) := by
        rw [← cellsE_den ρ σ i A.sh A.cols, denL_map, List.getElem?_map, h]; rfl
      simp only [Sg.pl] at hc
      rw [hst]
      simp [loadVar, run_isAgg hd w, ha, hc, e]
    · cases h

/-- A truth as a number. -/
def BE.toN : BE → Option NE
  | .lit b => some (.lit (if b then 1 else 0))
  | .icmp .eql a b => some (.bin .eqN a b)
  | .icmp .leq a b => some (.bin .leN a b)
  | .not a => (a.toN).map fun x => .bin .subI (.lit 1) x
  | .and a b => match a.toN, b.toN with
    | some x, some y => some (.bin .mulI x y)
    | _, _ => none
  | _ => none
theorem BE.toN_den : ∀ {b : BE} {x : NE}, b.toN = some x → x.den ρ = if b.den ρ then 1 else 0
  | .lit b, x, h => by simp only [BE.toN] at h; cases h; cases b <;> simp [NE.den, BE.den]
  | .var _, x, h => by simp [BE.toN] at h
  | .fcmp _ _ _ _, x, h => by simp [BE.toN] at h
  | .beq _ _, x, h => by simp [BE.toN] at h
  | .icmp o a b, x, h => by
    cases o <;> simp [BE.toN] at h
    · subst h; simp [NE.den, BE.den, NOp.den, COp.int]
    · subst h; simp [NE.den, BE.den, NOp.den, COp.int]
  | .not a, x, h => by
    simp only [BE.toN] at h
    obtain ⟨y, hy, rfl⟩ := Option.map_eq_some_iff.1 h
    have := BE.toN_den hy
    simp only [NE.den, NOp.den, this, BE.den]
    by_cases hb : BE.den ρ a = true <;> simp [hb]
  | .and a b, x, h => by
    simp only [BE.toN] at h
    split at h
    · rename_i y z hy hz
      cases h
      have h1 := BE.toN_den hy
      have h2 := BE.toN_den hz
      simp only [NE.den, NOp.den, h1, h2, BE.den]
      by_cases ha : BE.den ρ a = true <;> by_cases hb : BE.den ρ b = true <;> simp [ha, hb]
    · cases h
/-- Cells of an element are other ones now. -/
def updC (Γ : Facts) (i : NE) : Nat → List SV → List CK → List NE → Option (List NE)
  | _, [], _, l => some l
  | 0, v :: vs, .int k :: s, a :: l => (match v with
    | .int k' e => if k = k' then (updC Γ i 0 vs s l).map (.aupd a i e :: ·) else none
    | _ => none)
  | 0, v :: vs, .float k :: s, a :: l => (match v with
    | .float k' e => if k = k' then (updC Γ i 0 vs s l).map (.aupd a i e :: ·) else none
    | _ => none)
  | 0, v :: vs, .complex k :: s, a :: b :: l => (match v with
    | .complex k' e f => if k = k' then (updC Γ i 0 vs s l).map (fun l => .aupd a i e :: .aupd b i f :: l) else none
    | _ => none)
  | 0, v :: vs, .bool :: s, a :: l => (match v with
    | .bool e => (match res Γ e with
      | some x => (updC Γ i 0 vs s l).map (.aupd a i (.lit (if x then 1 else 0)) :: ·)
      | none => (match e.toN with
        | some x => (updC Γ i 0 vs s l).map (.aupd a i x :: ·)
        | none => none))
    | _ => none)
  | 0, v :: vs, .str :: s, a :: l => (match v with
    | .strn e => (updC Γ i 0 vs s l).map (.aupd a i e :: ·)
    | .str b => (updC Γ i 0 vs s l).map (.aupd a i (.lit (enS b)) :: ·)
    | _ => none)
  | c + 1, vs, .int _ :: s, a :: l => (updC Γ i c vs s l).map (a :: ·)
  | c + 1, vs, .float _ :: s, a :: l => (updC Γ i c vs s l).map (a :: ·)
  | c + 1, vs, .complex _ :: s, a :: b :: l => (updC Γ i c vs s l).map (fun l => a :: b :: l)
  | c + 1, vs, .bool :: s, a :: l => (updC Γ i c vs s l).map (a :: ·)
  | c + 1, vs, .str :: s, a :: l => (updC Γ i c vs s l).map (a :: ·)
  | _, _, _, _ => none
theorem setL_zero {α : Type} (x v : α) (l vs : List α) : setL (x :: l) 0 (v :: vs) = v :: setL l 0 vs := by simp [setL]
theorem setL_succ {α : Type} (x : α) (l vs : List α) (c : Nat) : setL (x :: l) (c + 1) vs = x :: setL l c vs := by simp [setL, Nat.add_right_comm c 1]
theorem setL_get {α : Type} (l v : List α) (n k : Nat) (h : n + v.length ≤ l.length) : (setL l n v)[k]? = if n ≤ k ∧ k < n + v.length then v[k - n]? else l[k]? := by
  simp only [setL, List.append_assoc]
  rw [List.getElem?_append]
  have e : (l.take n).length = n := by simp; omega
  rw [e]
  split
  · rename_i h1
    rw [if_neg (by omega), List.getElem?_take, if_pos h1]
  · rename_i h1
    rw [List.getElem?_append]
    split
    · rename_i h2; rw [if_pos (by omega)]
    · rename_i h2
      rw [if_neg (by omega), List.getElem?_drop]
      congr 1; omega
/-- What changed cells are. -/
structure UpdC (ρ : Env) (σ : Sg) (i : NE) (c : Nat) (vs : List SV) (s : List CK) (l l' : List NE) : Prop where
  fit : fitC s l' = true
  other : ∀ j, j ≠ i.den ρ → cellsV ρ j s l' = cellsV ρ j s l
  here : cellsV ρ (i.den ρ) s l' = setL (cellsV ρ (i.den ρ) s l) c (denL ρ σ vs)
theorem toN_bool (b : Bool) : (!((if b = true then (1 : Int) else 0) == 0)) = b := by cases b <;> rfl
theorem updC_ok (hΓ : Γ.Holds P ρ) (σ : Sg) {i : NE} : ∀ (c : Nat) (vs : List SV) (s : List CK) (l l' : List NE), updC Γ i c vs s l = some l' → fitC s l = true → UpdC ρ σ i c vs s l l'
  | c, [], s, l, l', h, hf => by
    have : l' = l := by simp [updC] at h; exact h.symm
    subst this
    exact ⟨hf, fun _ _ => rfl, by simp [denL, setL_nil]⟩
  | 0, v :: vs, (.int k) :: s, a :: l, l', h, hf => by
    simp only [fitC] at hf
    simp only [updC] at h
    split at h
    · split at h
      · rename_i hk
        subst hk
        obtain ⟨r, hr, rfl⟩ := Option.map_eq_some_iff.1 h
        have I := updC_ok hΓ σ 0 vs s l r hr hf
        refine ⟨by simp only [fitC]; exact I.fit, fun j hj => ?_, ?_⟩
        · simp [cellsV, NE.aden, hj, I.other j hj]
        · simp [cellsV, NE.aden, denL, SV.den, setL_zero, I.here]
      · cases h
    · cases h
  | c + 1, v :: vs, (.int k) :: s, a :: l, l', h, hf => by
    simp only [fitC] at hf
    simp only [updC] at h
    obtain ⟨r, hr, rfl⟩ := Option.map_eq_some_iff.1 h
    have I := updC_ok hΓ σ c (v :: vs) s l r hr hf
    refine ⟨by simp only [fitC]; exact I.fit, fun j hj => ?_, ?_⟩
    · simp [cellsV, I.other j hj]
    · simp [cellsV, setL_succ, I.here]
  | 0, v :: vs, (.int k) :: s, [], l', h, hf => by cases hf
  | c + 1, v :: vs, (.int k) :: s, [], l', h, hf => by cases hf
  | 0, v :: vs, (.float k) :: s, a :: l, l', h, hf => by
    simp only [fitC] at hf
    simp only [updC] at h
    split at h
    · split at h
      · rename_i hk
        subst hk
        obtain ⟨r, hr, rfl⟩ := Option.map_eq_some_iff.1 h
        have I := updC_ok hΓ σ 0 vs s l r hr hf
        refine ⟨by simp only [fitC]; exact I.fit, fun j hj => ?_, ?_⟩
        · simp [cellsV, NE.aden, hj, I.other j hj]
        · simp [cellsV, NE.aden, denL, SV.den, setL_zero, I.here]
      · cases h
    · cases h
  | c + 1, v :: vs, (.float k) :: s, a :: l, l', h, hf => by
    simp only [fitC] at hf
    simp only [updC] at h
    obtain ⟨r, hr, rfl⟩ := Option.map_eq_some_iff.1 h
    have I := updC_ok hΓ σ c (v :: vs) s l r hr hf
    refine ⟨by simp only [fitC]; exact I.fit, fun j hj => ?_, ?_⟩
    · simp [cellsV, I.other j hj]
    · simp [cellsV, setL_succ, I.here]
  | 0, v :: vs, (.float k) :: s, [], l', h, hf => by cases hf
  | c + 1, v :: vs, (.float k) :: s, [], l', h, hf => by cases hf
  | 0, v :: vs, (.complex k) :: s, a :: b :: l, l', h, hf => by
    simp only [fitC] at hf
    simp only [updC] at h
    split at h
    · split at h
      · rename_i hk
        subst hk
        obtain ⟨r, hr, rfl⟩ := Option.map_eq_some_iff.1 h
        have I := updC_ok hΓ σ 0 vs s l r hr hf
        refine ⟨by simp only [fitC]; exact I.fit, fun j hj => ?_, ?_⟩
        · simp [cellsV, NE.aden, hj, I.other j hj]
        · simp [cellsV, NE.aden, denL, SV.den, setL_zero, I.here]
      · cases h
    · cases h
  | c + 1, v :: vs, (.complex k) :: s, a :: b :: l, l', h, hf => by
    simp only [fitC] at hf
    simp only [updC] at h
    obtain ⟨r, hr, rfl⟩ := Option.map_eq_some_iff.1 h
    have I := updC_ok hΓ σ c (v :: vs) s l r hr hf
    refine ⟨by simp only [fitC]; exact I.fit, fun j hj => ?_, ?_⟩
    · simp [cellsV, I.other j hj]
    · simp [cellsV, setL_succ, I.here]
  | 0, v :: vs, (.complex k) :: s, [], l', h, hf => by cases hf
  | 0, v :: vs, (.complex k) :: s, [_], l', h, hf => by cases hf
  | c + 1, v :: vs, (.complex k) :: s, [], l', h, hf => by cases hf
  | c + 1, v :: vs, (.complex k) :: s, [_], l', h, hf => by cases hf
  | 0, v :: vs, .bool :: s, a :: l, l', h, hf => by
    simp only [fitC] at hf
    simp only [updC] at h
    split at h
    · split at h
      · rename_i e x hx
        obtain ⟨r, hr, rfl⟩ := Option.map_eq_some_iff.1 h
        have I := updC_ok hΓ σ 0 vs s l r hr hf
        have he := res_den hΓ hx
        refine ⟨by simp only [fitC]; exact I.fit, fun j hj => ?_, ?_⟩
        · simp [cellsV, NE.aden, hj, I.other j hj]
        · simp [cellsV, NE.aden, NE.den, denL, SV.den, setL_zero, I.here, he]
          cases x <;> simp
      · split at h
        · rename_i x hx
          obtain ⟨r, hr, rfl⟩ := Option.map_eq_some_iff.1 h
          have I := updC_ok hΓ σ 0 vs s l r hr hf
          have he := BE.toN_den (ρ := ρ) hx
          refine ⟨by simp only [fitC]; exact I.fit, fun j hj => ?_, ?_⟩
          · simp [cellsV, NE.aden, hj, I.other j hj]
          · simp only [cellsV, NE.aden, denL, SV.den, setL_zero, I.here, he, toN_bool, if_true]
        · cases h
    · cases h
  | c + 1, v :: vs, .bool :: s, a :: l, l', h, hf => by
    simp only [fitC] at hf
    simp only [updC] at h
    obtain ⟨r, hr, rfl⟩ := Option.map_eq_some_iff.1 h
    have I := updC_ok hΓ σ c (v :: vs) s l r hr hf
    refine ⟨by simp only [fitC]; exact I.fit, fun j hj => ?_, ?_⟩
    · simp [cellsV, I.other j hj]
    · simp [cellsV, setL_succ, I.here]
  | 0, v :: vs, .bool :: s, [], l', h, hf => by cases hf
  | c + 1, v :: vs, .bool :: s, [], l', h, hf => by cases hf
  | 0, v :: vs, .str :: s, a :: l, l', h, hf => by
    simp only [fitC] at hf
    simp only [updC] at h
    split at h
    · obtain ⟨r, hr, rfl⟩ := Option.map_eq_some_iff.1 h
      have I := updC_ok hΓ σ 0 vs s l r hr hf
      refine ⟨by simp only [fitC]; exact I.fit, fun j hj => ?_, ?_⟩
      · simp [cellsV, NE.aden, hj, I.other j hj]
      · simp [cellsV, NE.aden, NE.den, denL, SV.den, setL_zero, I.here]
    · obtain ⟨r, hr, rfl⟩ := Option.map_eq_some_iff.1 h
      have I := updC_ok hΓ σ 0 vs s l r hr hf
      refine ⟨by simp only [fitC]; exact I.fit, fun j hj => ?_, ?_⟩
      · simp [cellsV, NE.aden, hj, I.other j hj]
      · simp [cellsV, NE.aden, NE.den, denL, SV.den, setL_zero, I.here, deS_enS]
    · cases h
  | c + 1, v :: vs, .str :: s, a :: l, l', h, hf => by
    simp only [fitC] at hf
    simp only [updC] at h
    obtain ⟨r, hr, rfl⟩ := Option.map_eq_some_iff.1 h
    have I := updC_ok hΓ σ c (v :: vs) s l r hr hf
    refine ⟨by simp only [fitC]; exact I.fit, fun j hj => ?_, ?_⟩
    · simp [cellsV, I.other j hj]
    · simp [cellsV, setL_succ, I.here]
  | 0, v :: vs, .str :: s, [], l', h, hf => by cases hf
  | c + 1, v :: vs, .str :: s, [], l', h, hf => by cases hf
  | 0, v :: vs, [], l, l', h, hf => by simp [updC] at h
  | c + 1, v :: vs, [], l, l', h, hf => by simp [updC] at h

def evStoreR (P : Program) (Γ : Facts) (t : TypeId) (b : Nat) (i : NE) (st c : Nat) (v : SV) (H : Hp) : Option (Hp × List Nat) := do
  let q ← getA H b
  let ti ← P.info? t
  if q.1.ro = false ∧ st = q.2.sh.length ∧ inR Γ i q.2.n = true ∧ ti.size = v.cells.length ∧ v.cells.all SV.isCell = true ∧ c + v.cells.length ≤ st then do
    let l ← updC Γ i c v.cells q.2.sh q.2.cols
    some (H.set b (some { q.1 with abs := some { q.2 with cols := l } }), [b])
  else none
theorem mulPos {st j k i c n : Nat} (hi : i < st) (hc : c + n ≤ st) (h1 : k * st + c ≤ j * st + i) (h2 : j * st + i < k * st + c + n) : j = k := by
  rcases Nat.lt_trichotomy j k with h | h | h
  · have : (j + 1) * st ≤ k * st := Nat.mul_le_mul_right _ h
    rw [Nat.add_mul] at this; omega
  · exact h
  · have : (k + 1) * st ≤ j * st := Nat.mul_le_mul_right _ h
    rw [Nat.add_mul] at this; omega
theorem storeR_ok (hΓ : Γ.Holds P ρ) {σ : Sg} {H H' : Hp} {W : List Nat} {w : World} (hr : HRel P ρ σ H w) {t : TypeId} {b : Nat} {i : NE} {st c : Nat} {v : SV} (hv0 : v.isAny = false) (h : evStoreR P Γ t b i st c v H = some (H', W)) :
    ∃ w', (storeVar t ⟨σ.blk b, σ.off b + (i.den ρ).toNat * st + c, none⟩ (v.den ρ σ)).run P w = .ok () w' ∧ Post P ρ σ σ H H' W w w' := by
  unfold evStoreR at h
  simp only [Option.bind_eq_bind, Option.bind_eq_some_iff, Option.ite_none_right_eq_some, Option.some.injEq, Prod.mk.injEq] at h
  obtain ⟨⟨x, A⟩, hx, ti, hi, ⟨hro, hst, hin, hsz, hc, hle⟩, l, hl, rfl, rfl⟩ := h
  have R := hr.row hx
  obtain ⟨hx1, hx2⟩ := getA_some hx
  obtain ⟨hci, _⟩ := hr.blk b x hx1
  obtain ⟨h0, h1⟩ := inR_ok hΓ hin
  simp only at hro hst h0 h1 hl hle
  have U := updC_ok hΓ σ c v.cells A.sh A.cols l hl R.fit
  have hg : σ.gh b = none := by
    cases hg : σ.gh b with
    | none => rfl
    | some a => have := R.gh a hg; omega
  obtain ⟨cs, te, fr, hw, hcell, hown⟩ := R.at_ hg
  obtain ⟨rfl, rfl, hoff, hsize, hcs, hcap⟩ := hown hro
  simp only [Sg.pl] at hw hcell hoff hsize hcap
  have hlen : (cellsV ρ (i.den ρ) A.sh A.cols).length = A.sh.length := fitC_len ρ _ _ _ R.fit
  have hmul : ((i.den ρ).toNat + 1) * st ≤ σ.cap b * st := Nat.mul_le_mul_right _ (by omega)
  rw [Nat.add_mul] at hmul
  have hvl : (denL ρ σ v.cells).length = v.cells.length := by rw [denL_length]
  have hLl : cs.toList.length = σ.cap b * st := by rw [Array.length_toList, hsize, hst, hcs]
  obtain ⟨w', hrun, hu⟩ := run_storeCells (P := P) (t := x.elem) (k := σ.blk b) (off := σ.off b + (i.den ρ).toNat * st + c) (denL ρ σ v.cells) 0 cs.toList w (fun u hu => by
    rw [denL_map] at hu
    obtain ⟨y, hy, rfl⟩ := List.mem_map.1 hu
    exact SV.isCell_den (List.all_eq_true.1 hc y hy)) (by simpa using hw) (by rw [hvl, hLl, hoff]; omega)
  refine ⟨w', ?_, Post.upd hr hx1 (fun h => absurd h (by simp [Blk.isRec, hro])) (by simp [Blk.shd, hro]) (by simp [Blk.shd, hro]) hci (BlkAt.ofRow rfl ?_) hu.os hu.tape hu.out hu.size fun k hk hne => hu.other k fun e => hne hg e.symm⟩
  · simp [storeVar, run_sizeOf hi w, SV.cells_den _ _ _ hv0, denL_length, hsz, hrun]
  · refine ⟨R.nn, U.fit, R.gh, (fun _ => ⟨(setL cs.toList (σ.off b + (i.den ρ).toNat * st + c + 0) (denL ρ σ v.cells)).toArray, x.elem, (0, 0), hu.at_, fun j m hj hm => ?_, fun _ => ⟨rfl, rfl, hoff, ?_, hcs, hcap⟩⟩), R.cp⟩
    · simp only [Sg.pl] at hj hm ⊢
      have hold := hcell j m hj hm
      rw [List.getElem?_toArray, setL_get _ _ _ _ (by rw [hvl, hLl, hoff]; omega)]
      rw [hoff] at hold ⊢
      simp only [Nat.zero_add, Nat.add_zero] at hold ⊢
      by_cases hji : j = (i.den ρ).toNat
      · have ej : (j : Int) = i.den ρ := by omega
        have hold2 := hold
        rw [hji, ← hst] at hold2
        have ej2 : (((i.den ρ).toNat : Nat) : Int) = i.den ρ := by omega
        rw [ej2] at hold2
        rw [ej, U.here, setL_get _ _ _ _ (by rw [hvl, hlen]; omega), hvl]
        rw [← hst, hji]
        by_cases hcm : c ≤ m ∧ m < c + v.cells.length
        · rw [if_pos (by omega), if_pos hcm]; congr 1; omega
        · rw [if_neg (by omega), if_neg hcm, ← hold2]; simp
      · rw [U.other j (by omega), if_neg, ← hold]
        · simp
        · rintro ⟨g1, g2⟩
          rw [hvl] at g2
          rw [← hst] at g1 g2
          exact hji (mulPos (by omega) hle g1 g2)
    · simp only [List.size_toArray, Sg.pl]
      rw [setL_length _ _ _ (by rw [hvl, hLl, hoff]; omega), Array.length_toList, hsize]

/-- The row of a slice. -/
def rowOf (H : Hp) (b : Nat) (n : NE) : Option (Blk × Abs) := match getA H b with
  | some q => if q.2.n = n then some q else none
  | none => none
theorem rowOf_some {H : Hp} {b : Nat} {n : NE} {q : Blk × Abs} (h : rowOf H b n = some q) : getA H b = some q ∧ q.2.n = n := by
  unfold rowOf at h
  split at h
  · rename_i r hr
    split at h
    · rename_i hn; cases h; exact ⟨hr, hn⟩
    · cases h
  · cases h
/-- A slice that is a row, as the model's. -/
theorem HRel.slice {σ : Sg} {H : Hp} {w : World} (hr : HRel P ρ σ H w) {b : Nat} {n : NE} {q : Blk × Abs} (h : rowOf H b n = some q) :
    0 ≤ n.den ρ ∧ ((∃ a, σ.gh b = some a ∧ n.den ρ = 0 ∧ (SV.asl b n).den ρ σ = .slice a 0 0) ∨ (σ.gh b = none ∧ (SV.asl b n).den ρ σ = .slice (some ⟨σ.blk b, σ.off b, none⟩) (n.den ρ).toNat (σ.cap b))) := by
  obtain ⟨h1, h2⟩ := rowOf_some h
  have R := hr.row h1
  have nn := R.nn
  rw [h2] at nn
  refine ⟨nn, ?_⟩
  cases hg : σ.gh b with
  | none => exact .inr ⟨rfl, by simp [SV.den, hg]⟩
  | some a =>
    have := R.gh a hg
    rw [h2] at this
    exact .inl ⟨a, rfl, this, by simp [SV.den, hg]⟩

def evIndexR (P : Program) (Γ : Facts) (t : TypeId) (x i : SV) (H : Hp) : Option SV := match x, i with
  | .asl b n, .int _ j => do
    let _ ← rowOf H b n
    let d ← P.underlying t
    match d with
    | .slice e => do
      let ti ← P.info? e
      if inR Γ j n = true then some (.eptr b j ti.size 0) else none
    | _ => none
  | .eptr b j st c, i => do
    let m ← litI i
    let d ← P.underlying t
    match d with
    | .array len e => do
      let ti ← P.info? e
      if 0 ≤ m ∧ m < len then some (.eptr b j st (c + m.toNat * ti.size)) else none
    | _ => none
  | _, _ => none
theorem indexR_ok (hΓ : Γ.Holds P ρ) {σ : Sg} {H : Hp} {w : World} (hr : HRel P ρ σ H w) {t : TypeId} {x i v : SV} (h : evIndexR P Γ t x i H = some v) :
    (Instr.indexAt t (x.den ρ σ) (i.den ρ σ)).run P w = .ok (v.den ρ σ) w ∧ ∀ m, x.inside m = true → v.inside m = true := by
  unfold evIndexR at h
  split at h
  · rename_i b n k j
    simp only [Option.bind_eq_bind, Option.bind_eq_some_iff] at h
    obtain ⟨q, hq, d, hd, h⟩ := h
    split at h
    · simp only [Option.bind_eq_some_iff, Option.ite_none_right_eq_some, Option.some.injEq] at h
      obtain ⟨ti, hi, hin, rfl⟩ := h
      obtain ⟨h0, h1⟩ := inR_ok hΓ hin
      obtain ⟨nn, hs⟩ := hr.slice hq
      rcases hs with ⟨a, _, hz, _⟩ | ⟨_, he⟩
      · omega
      · refine ⟨?_, fun m hm => hm⟩
        rw [he]
        have h1' : j.den ρ < ((n.den ρ).toNat : Int) := by omega
        simp [SV.den, Instr.indexAt, asIntOf, run_underlying hd, Instr.sureAddr, h0, h1', run_sizeOf hi w, addr_add]
        intro h9; omega
    · cases h
  · rename_i b j st c
    simp only [Option.bind_eq_bind, Option.bind_eq_some_iff] at h
    obtain ⟨m, hm, d, hd, h⟩ := h
    obtain ⟨k, hk⟩ := litI_den (ρ := ρ) hm σ
    split at h
    · simp only [Option.bind_eq_some_iff, Option.ite_none_right_eq_some, Option.some.injEq] at h
      obtain ⟨ti, hi, ⟨h0, h1⟩, rfl⟩ := h
      refine ⟨?_, fun m hm => hm⟩
      rw [hk]
      simp [SV.den, Instr.indexAt, asIntOf, run_underlying hd, Instr.sureAddr, h0, h1, run_sizeOf hi w, addr_add, Nat.add_assoc]
    · cases h
  · cases h

def evFieldR (P : Program) (s : TypeId) (x : SV) (f : Nat) : Option SV := match x with
  | .eptr b i st c => do
    let d ← P.underlying s
    match d with
    | .struct fs => do
      let fd ← fs[f]?
      let ti ← P.info? fd.type
      if ti.size ≠ 0 then some (.eptr b i st (c + fd.offset)) else none
    | _ => none
  | _ => none
theorem fieldR_ok {σ : Sg} {s : TypeId} {x v : SV} {f : Nat} (h : evFieldR P s x f = some v) : Runs P (Instr.fieldAt s (x.den ρ σ) f) (v.den ρ σ) ∧ ∀ m, x.inside m = true → v.inside m = true := by
  unfold evFieldR at h
  split at h
  · simp only [Option.bind_eq_bind, Option.bind_eq_some_iff] at h
    obtain ⟨d, hd, h⟩ := h
    split at h
    · simp only [Option.bind_eq_some_iff, Option.ite_none_right_eq_some, Option.some.injEq] at h
      obtain ⟨fd, hf, ti, hi, hz, rfl⟩ := h
      refine ⟨fun w => ?_, fun m hm => hm⟩
      simp [SV.den, Instr.fieldAt, run_underlying hd, hf, Instr.sureAddr, fieldPlace, run_sizeOf hi w, hz, addr_add, Nat.add_assoc]
    · cases h
  · cases h
end Go.Proofs.Ytgdhpgjfebinhaa.Ev
