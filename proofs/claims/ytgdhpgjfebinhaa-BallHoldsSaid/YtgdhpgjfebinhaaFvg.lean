/- The symbolic machine's composite values, slices and builtins. -/
import Derived.Test.YtgdhpgjfebinhaaFvf
namespace Go.Proofs.Ytgdhpgjfebinhaa.Ev
set_option linter.unusedSimpArgs false
open Go Go.RowKit
set_option linter.unusedVariables false
variable {P : Program} {ρ : Env} {Γ : Facts}
variable {ds : List Deferred}

theorem run_mapM_list {α β : Type} {f : α → Sem β} {g : α → β} : ∀ (l : List α), (∀ x ∈ l, Runs P (f x) (g x)) → Runs P (l.mapM f) (l.map g)
  | [], _ => fun w => by simp
  | x :: l, h => fun w => by
    have h1 := h x (by simp) w
    have h2 := run_mapM_list l (fun y hy => h y (by simp [hy])) w
    simp [List.mapM_cons, h1, h2]
theorem run_mapM_array {α β : Type} {f : α → Sem β} {g : α → β} (xs : Array α) (h : ∀ x ∈ xs.toList, Runs P (f x) (g x)) : Runs P (xs.mapM f) (xs.map g) := by
  obtain ⟨l⟩ := xs
  intro w
  have := run_mapM_list (P := P) l h w
  simp [List.mapM_toArray, this]

def embedZ (P : Program) (t : TypeId) : Option (List SV) := do
  let i ← P.info? t
  let z ← i.zero
  z.cells.toList.mapM (ofVal 64)
theorem embedZ_ok {t : TypeId} {cs : List SV} (h : embedZ P t = some cs) (σ : Sg) : ∃ z : Value, Runs P (zeroValue t) z ∧ z.cells = (denL ρ σ cs).toArray ∧ ∀ n, insideL n cs = true := by
  unfold embedZ at h
  simp only [Option.bind_eq_bind, Option.bind_eq_some_iff] at h
  obtain ⟨i, hi, z, hz, h⟩ := h
  obtain ⟨e, s⟩ := ofValL_den (ρ := ρ) (σ := σ) 64 _ _ h
  exact ⟨z, run_zeroValue hi hz, by rw [e], s⟩

def evParts (T : List SV) : List (Nat × Operand) → Option (List (Nat × SV))
  | [] => some []
  | (i, x) :: l => match evO T x, evParts T l with
    | some v, some r => some ((i, v) :: r)
    | _, _ => none
theorem evParts_den {σ : Sg} {n : Nat} {T : List SV} {a : Act} (h : TRel ds ρ σ n T a) : ∀ {l : List (Nat × Operand)} {r : List (Nat × SV)}, evParts T l = some r →
    l.map (fun p => (p.1, a.eval p.2)) = r.map (fun p => (p.1, p.2.den ρ σ)) ∧ (∀ p ∈ r, p.2.inside n = true) ∧ ∀ p ∈ r, p.2.isAny = false
  | [], r, hx => by cases hx; exact ⟨rfl, (fun _ h => by cases h), fun _ h => by cases h⟩
  | (i, x) :: l, r, hx => by
    simp only [evParts] at hx
    split at hx
    · rename_i v r' h1 h2
      cases hx
      obtain ⟨e1, s1⟩ := evO_den h h1
      obtain ⟨e2, s2, n2⟩ := evParts_den h h2
      refine ⟨by simp [e1, e2], fun p hp => ?_, fun p hp => ?_⟩
      · rcases List.mem_cons.1 hp with rfl | hp
        · exact s1
        · exact s2 p hp
      · rcases List.mem_cons.1 hp with rfl | hp
        · exact evO_any h1
        · exact n2 p hp
    · cases hx

def evBuild (P : Program) (t : TypeId) (parts : List (Nat × SV)) : Option (List SV) := do
  let cs ← embedZ P t
  let d ← P.underlying t
  match d with
  | .struct fs => if fs.toList.all (fun f => (P.info? f.type).isSome) = true then fillS (fun i => (fs[i]?).map fun f => (f.offset, P.cellsOf f.type)) cs parts else none
  | .array _ e => do
    let i ← P.info? e
    fillS (fun j => some (j * i.size, i.size)) cs parts
  | _ => none
theorem build_ok {σ : Sg} {t : TypeId} {parts : List (Nat × SV)} {r : List SV} (hany : ∀ p ∈ parts, p.2.isAny = false) (h : evBuild P t parts = some r) {ps : Array (Nat × Value)} (hp : ps.toList = parts.map fun p => (p.1, p.2.den ρ σ)) :
    Runs P (Instr.build t ps) (.agg (denL ρ σ r).toArray) ∧ ∀ n, (∀ p ∈ parts, p.2.inside n = true) → insideL n r = true := by
  unfold evBuild at h
  simp only [Option.bind_eq_bind, Option.bind_eq_some_iff] at h
  obtain ⟨cs, hcs, d, hd, h⟩ := h
  obtain ⟨z, hz, hzc, hin⟩ := embedZ_ok (ρ := ρ) hcs σ
  split at h
  · rename_i fs
    simp only [Option.ite_none_right_eq_some] at h
    obtain ⟨hall, h⟩ := h
    obtain ⟨e, s⟩ := fill_ok (ρ := ρ) (σ := σ) h hany
    refine ⟨fun w => ?_, fun n hn => s n (hin n) hn⟩
    have hm : Runs P (fs.mapM fun f => do pure (f.offset, ← sizeOf f.type)) (fs.map fun f => (f.offset, P.cellsOf f.type)) := by
      refine run_mapM_array fs fun f hf w => ?_
      have := List.all_eq_true.1 hall f hf
      obtain ⟨i, hi⟩ := Option.isSome_iff_exists.1 this
      simp [run_sizeOf hi w, Program.cellsOf, hi]
    have hpl : (fun (i : Nat) => (fs.map fun (f : Field) => (f.offset, P.cellsOf f.type))[i]?) = (fun i => (fs[i]?).map fun (f : Field) => (f.offset, P.cellsOf f.type)) := by
      funext i; simp
    simp only [Instr.build, Sem.run_bind, hz w, Result.andThen_ok, run_underlying hd, hm w, hzc, hpl, hp, e, Sem.run_pure]
  · simp only [Option.bind_eq_some_iff] at h
    obtain ⟨i, hi, h⟩ := h
    obtain ⟨e, s⟩ := fill_ok (ρ := ρ) (σ := σ) h hany
    refine ⟨fun w => ?_, fun n hn => s n (hin n) hn⟩
    simp only [Instr.build, Sem.run_bind, hz w, Result.andThen_ok, run_underlying hd, run_sizeOf hi w, hzc, hp, e, Sem.run_pure]
  · cases h

theorem map_range0 {α : Type} (f : Nat → α) : (Array.range 0).map f = #[] := by simp
/-- The cells of so many zero elements. -/
def zerosL (P : Program) (e : TypeId) (n : Nat) : Option (List SV) := do
  let i ← P.info? e
  if n = 0 then some [] else do
    let z ← i.zero
    ((Array.range n).map (z.cells[· % z.cells.size]!)).toList.mapM (ofVal 64)
theorem zerosL_ok {e : TypeId} {n : Nat} {cs : List SV} (h : zerosL P e n = some cs) (σ : Sg) :
    ((n = 0 ∧ cs = []) ∨ (n ≠ 0 ∧ ∃ z : Value, Runs P (zeroValue e) z ∧ (Array.range n).map (z.cells[· % z.cells.size]!) = (denL ρ σ cs).toArray)) ∧ ∀ m, insideL m cs = true := by
  unfold zerosL at h
  simp only [Option.bind_eq_bind, Option.bind_eq_some_iff] at h
  obtain ⟨i, hi, h⟩ := h
  split at h
  · rename_i hn
    cases h
    exact ⟨.inl ⟨hn, rfl⟩, fun _ => rfl⟩
  · rename_i hn
    simp only [Option.bind_eq_some_iff] at h
    obtain ⟨z, hz, h⟩ := h
    obtain ⟨e', s⟩ := ofValL_den (ρ := ρ) (σ := σ) 64 _ _ h
    refine ⟨.inr ⟨hn, z, run_zeroValue hi hz, ?_⟩, s⟩
    rw [e', Array.toArray_toList]

def evBuildSlice (P : Program) (t : TypeId) (len : Nat) (parts : List (Nat × SV)) : Option (TypeId × List SV) := do
  let d ← P.underlying t
  match d with
  | .slice e => do
    let i ← P.info? e
    if len * i.size ≤ 2 ^ 24 then do
      let cs ← zerosL P e (len * i.size)
      let r ← fillS (fun j => some (j * i.size, i.size)) cs parts
      some (e, r)
    else none
  | _ => none
theorem buildSlice_ok {σ : Sg} {H : Hp} {w : World} (hr : HRel P ρ σ H w) {t e : TypeId} {len : Nat} {parts : List (Nat × SV)} {r : List SV} (hany : ∀ p ∈ parts, p.2.isAny = false) (h : evBuildSlice P t len parts = some (e, r)) {ps : Array (Nat × Value)}
    (hp : ps.toList = parts.map fun p => (p.1, p.2.den ρ σ)) (hin : ∀ p ∈ parts, p.2.inside H.length = true) :
    ∃ σ' w', (Instr.buildSlice t len ps).run P w = .ok (.slice (some ⟨σ'.blk H.length, 0, none⟩) len len) w' ∧ Post P ρ σ σ' H (H ++ [some ⟨r, e, false, false, none⟩]) [] w w' := by
  unfold evBuildSlice at h
  simp only [Option.bind_eq_bind, Option.bind_eq_some_iff] at h
  obtain ⟨d, hd, h⟩ := h
  split at h
  · simp only [Option.bind_eq_some_iff, Option.ite_none_right_eq_some, Option.some.injEq, Prod.mk.injEq] at h
    obtain ⟨i, hi, hle, cs, hcs, r', hf, rfl, rfl⟩ := h
    obtain ⟨hz0, hz'⟩ := zerosL_ok (ρ := ρ) hcs σ
    obtain ⟨ef, s⟩ := fill_ok (ρ := ρ) (σ := σ) hf hany
    obtain ⟨σ', w', hrun, hpost⟩ := newRow_ok hr _ (s H.length (hz' _) hin)
    refine ⟨σ', w', ?_, hpost⟩
    simp only [Instr.buildSlice, Sem.run_bind, run_underlying hd, Result.andThen_ok, run_sizeOf hi w]
    rw [if_neg (by omega)]
    rcases hz0 with ⟨hn, rfl⟩ | ⟨hn, z, hz, hc⟩
    · rw [if_pos hn]
      simp only [Sem.run_pure, Result.andThen_ok, Sem.run_bind, hn, map_range0, hp]
      simp only [denL] at ef
      simp only [ef, Sem.run_bind, hrun, Result.andThen_ok, Sem.run_pure]
    · rw [if_neg hn]
      simp only [Sem.run_pure, Result.andThen_ok, Sem.run_bind, hz w, hc, hp, ef, hrun]
  · cases h

def evMakeSlice (P : Program) (t : TypeId) (l c : SV) : Option (TypeId × List SV × Nat × Nat) := do
  let d ← P.underlying t
  let n ← litI l
  let m ← litI c
  match d with
  | .slice e => do
    let i ← P.info? e
    if 0 ≤ IntKind.i64.wrap n ∧ IntKind.i64.wrap n ≤ IntKind.i64.wrap m ∧ (i.bytes : Int) * IntKind.i64.wrap m ≤ 2 ^ 48 then do
      let cs ← zerosL P e ((IntKind.i64.wrap m).toNat * i.size)
      some (e, cs, (IntKind.i64.wrap n).toNat, (IntKind.i64.wrap m).toNat)
    else none
  | _ => none
theorem makeSlice_ok {σ : Sg} {H : Hp} {w : World} (hr : HRel P ρ σ H w) {t e : TypeId} {l c : SV} {r : List SV} {n m : Nat} (h : evMakeSlice P t l c = some (e, r, n, m)) :
    ∃ σ' w', (Instr.makeSlice t (l.den ρ σ) (c.den ρ σ)).run P w = .ok (.slice (some ⟨σ'.blk H.length, 0, none⟩) n m) w' ∧ Post P ρ σ σ' H (H ++ [some ⟨r, e, false, false, none⟩]) [] w w' := by
  unfold evMakeSlice at h
  simp only [Option.bind_eq_bind, Option.bind_eq_some_iff] at h
  obtain ⟨d, hd, n', hn, m', hm, h⟩ := h
  obtain ⟨k, hk⟩ := litI_den (ρ := ρ) hn σ
  obtain ⟨k', hk'⟩ := litI_den (ρ := ρ) hm σ
  split at h
  · simp only [Option.bind_eq_some_iff, Option.ite_none_right_eq_some, Option.some.injEq, Prod.mk.injEq] at h
    obtain ⟨i, hi, ⟨h0, h1, h2⟩, cs, hcs, rfl, rfl, rfl, rfl⟩ := h
    obtain ⟨hz0, hz'⟩ := zerosL_ok (ρ := ρ) hcs σ
    obtain ⟨σ', w', hrun, hpost⟩ := newRow_ok hr _ (hz' H.length)
    refine ⟨σ', w', ?_, hpost⟩
    have g : (decide (IntKind.i64.wrap m' < 0) || decide ((i.bytes : Int) * IntKind.i64.wrap m' > 2 ^ 48)) = false := by simp; omega
    simp only [Instr.makeSlice, hk, hk', asInt, asIntOf, Sem.run_bind, run_underlying hd, Result.andThen_ok, Sem.run_pure, typeInfo, run_program, hi, g, Bool.false_or]
    rw [if_neg (by simp; omega)]
    rcases hz0 with ⟨hn, rfl⟩ | ⟨hn, z, hz, hc⟩
    · simp only [Sem.run_pure, Result.andThen_ok, Sem.run_bind, run_askRoom, run_sizeOf hi w]
      rw [if_pos hn]
      simp only [denL] at hrun
      simp only [Sem.run_pure, Result.andThen_ok, Sem.run_bind, hn, map_range0, hrun]
    · simp only [Sem.run_pure, Result.andThen_ok, Sem.run_bind, run_askRoom, run_sizeOf hi w]
      rw [if_neg hn]
      simp only [Sem.run_pure, Result.andThen_ok, Sem.run_bind, hz w, hc, hrun]
  · cases h

def evBound (x : Option SV) (dflt y : Nat) : Option Nat := match x with
  | none => some dflt
  | some v => do
    let i ← litI v
    if 0 ≤ i ∧ i ≤ y then some i.toNat else none
theorem bounds_ok {σ : Sg} {isS : Bool} {len cap h l : Nat} {lo hi : Option SV} (hh : evBound hi len cap = some h) (hl : evBound lo 0 h = some l) :
    Runs P (Instr.sliceBounds isS len cap (lo.map (·.den ρ σ)) (hi.map (·.den ρ σ)) none) (l, h, cap) := by
  have b1 : ∀ {x : SV} {i : Int} {y : Nat} {c : BoundsCode}, litI x = some i → 0 ≤ i → i ≤ y → Runs P (Instr.sliceBound (x.den ρ σ) y c) i.toNat := by
    intro x i y c hx h0 h1 w
    obtain ⟨k, hk⟩ := litI_den (ρ := ρ) hx σ
    simp [Instr.sliceBound, hk, asIntOf, h0, h1]
  intro w
  unfold evBound at hh hl
  cases hi with
  | none =>
    cases hh
    cases lo with
    | none => cases hl; simp [Instr.sliceBounds]
    | some v =>
      simp only [Option.bind_eq_bind, Option.bind_eq_some_iff, Option.ite_none_right_eq_some, Option.some.injEq] at hl
      obtain ⟨i, hi, ⟨h0, h1⟩, rfl⟩ := hl
      simp [Instr.sliceBounds, b1 hi h0 h1 w]
  | some u =>
    simp only [Option.bind_eq_bind, Option.bind_eq_some_iff, Option.ite_none_right_eq_some, Option.some.injEq] at hh
    obtain ⟨i, hi, ⟨h0, h1⟩, rfl⟩ := hh
    cases lo with
    | none => cases hl; simp [Instr.sliceBounds, b1 hi h0 h1 w]
    | some v =>
      simp only [Option.bind_eq_bind, Option.bind_eq_some_iff, Option.ite_none_right_eq_some, Option.some.injEq] at hl
      obtain ⟨j, hj, ⟨g0, g1⟩, rfl⟩ := hl
      simp [Instr.sliceBounds, b1 hi h0 h1 w, b1 hj g0 g1 w]

def evSlice (P : Program) (t : TypeId) (x : SV) (lo hi : Option SV) : Option SV := do
  let d ← P.underlying t
  match d, x with
  | .array n e, .ptr (some a) => do
    let i ← P.info? e
    let h ← evBound hi n n
    let l ← evBound lo 0 h
    if a.spot = none then some (.slice (some ⟨a.block, if n = l then a.off else a.off + l * i.size, none⟩) (h - l) (n - l)) else none
  | .slice e, .slice (some a) len cap => do
    let i ← P.info? e
    let h ← evBound hi len cap
    let l ← evBound lo 0 h
    if a.spot = none then some (.slice (some ⟨a.block, if cap = l then a.off else a.off + l * i.size, none⟩) (h - l) (cap - l)) else none
  | .slice e, .slice none len cap => do
    let i ← P.info? e
    let h ← evBound hi len cap
    let l ← evBound lo 0 h
    some (.slice none (h - l) (cap - l))
  | .string, .str s => do
    let h ← evBound hi s.size s.size
    let l ← evBound lo 0 h
    some (.str (s.extract l h))
  | _, _ => none
theorem slice_ok {σ : Sg} {t : TypeId} {x v : SV} {lo hi : Option SV} (h : evSlice P t x lo hi = some v) :
    Runs P (Instr.sliceAt t (x.den ρ σ) (lo.map (·.den ρ σ)) (hi.map (·.den ρ σ)) none) (v.den ρ σ) ∧ ∀ m, x.inside m = true → v.inside m = true := by
  unfold evSlice at h
  simp only [Option.bind_eq_bind, Option.bind_eq_some_iff] at h
  obtain ⟨d, hd, h⟩ := h
  split at h
  · simp only [Option.bind_eq_some_iff, Option.ite_none_right_eq_some, Option.some.injEq] at h
    obtain ⟨i, hi', h', hh, l, hl, hs, rfl⟩ := h
    have hb := bounds_ok (P := P) (ρ := ρ) (σ := σ) (isS := false) hh hl
    refine ⟨fun w => ?_, fun m hm => hm⟩
    simp only [SV.den, Option.map_some]
    rw [addr_none hs, addr_none rfl]
    simp only [Instr.sliceAt, Sem.run_bind, run_underlying hd, Result.andThen_ok, Instr.sureAddr, Sem.run_pure, hb w, run_sizeOf hi' w, addr_add]
    split <;> simp [*]
  · simp only [Option.bind_eq_some_iff, Option.ite_none_right_eq_some, Option.some.injEq] at h
    obtain ⟨i, hi', h', hh, l, hl, hs, rfl⟩ := h
    have hb := bounds_ok (P := P) (ρ := ρ) (σ := σ) (isS := true) hh hl
    refine ⟨fun w => ?_, fun m hm => hm⟩
    simp only [SV.den, Option.map_some]
    rw [addr_none hs, addr_none rfl]
    simp only [Instr.sliceAt, Instr.slice, Sem.run_bind, run_underlying hd, Result.andThen_ok, Instr.sureAddr, Sem.run_pure, hb w, run_sizeOf hi' w, addr_add, Option.map_some]
    split <;> simp [*]
  · simp only [Option.bind_eq_some_iff, Option.some.injEq] at h
    obtain ⟨i, hi', h', hh, l, hl, rfl⟩ := h
    have hb := bounds_ok (P := P) (ρ := ρ) (σ := σ) (isS := true) hh hl
    refine ⟨fun w => ?_, fun m hm => rfl⟩
    simp only [SV.den, Option.map_none]
    simp only [Instr.sliceAt, Instr.slice, Sem.run_bind, run_underlying hd, Result.andThen_ok, Instr.sureAddr, Sem.run_pure, hb w, run_sizeOf hi' w, Option.map_none, ite_self]
  · simp only [Option.bind_eq_some_iff, Option.some.injEq] at h
    obtain ⟨h', hh, l, hl, rfl⟩ := h
    have hb := bounds_ok (P := P) (ρ := ρ) (σ := σ) (isS := false) hh hl
    refine ⟨fun w => ?_, fun m hm => rfl⟩
    simp only [SV.den]
    simp only [Instr.sliceAt, Instr.slice, Sem.run_bind, run_underlying hd, Result.andThen_ok, Sem.run_pure, hb w, Option.isSome_none, Bool.false_eq_true, if_false]
  · cases h
end Go.Proofs.Ytgdhpgjfebinhaa.Ev
