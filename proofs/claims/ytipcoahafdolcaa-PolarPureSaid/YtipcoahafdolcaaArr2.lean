/- Arguments that are arrays and structs of whole numbers, whatever their nesting: their cells are whole numbers, and they read so in every world. -/
import Derived.OpenShut
import Derived.Deep.Modes
import Derived.WideShapes
import Derived.ChangeSame
namespace Go.Proofs.Ytipcoahafdolcaa.Ar2
open Go Go.ChangeShapes Go.WideShapes

/-- A type that is made of ints alone (to depth k). -/
def flatI (P : Program) : Nat → TypeId → Bool
  | 0, _ => false
  | k + 1, t => match P.underlying t with
    | some (.int q) => decide (q = .i64)
    | some (.array n e) => flatI P k e && decide (P.cellsOf t = n * P.cellsOf e)
    | some (.struct fs) => fs.toList.all (fun f => flatI P k f.type) && (List.range (P.cellsOf t)).all fun i => fs.toList.any fun f => decide (f.offset ≤ i) && decide (i < f.offset + P.cellsOf f.type)
    | _ => false

/-- An int of 64 bits. -/
def I64 (n : Int) : Prop := -9223372036854775808 ≤ n ∧ n ≤ 9223372036854775807
def IntCells (cs : List Value) : Prop := ∀ c ∈ cs, ∃ n : Int, c = .int .i64 n ∧ I64 n
theorem i64_wf {n : Int} (h : (Lit.int .i64 n).wf = true) : I64 n := by
  simp only [Lit.wf, Bool.and_eq_true, decide_eq_true_eq] at h
  have e1 : IntKind.i64.min = -9223372036854775808 := rfl
  have e2 : IntKind.i64.max = 9223372036854775807 := rfl
  rw [e1, e2] at h
  exact h

section
variable {H : Type} {enc : TypeId × Value → H} {P : Program} {w : World} {base : Nat} {spare : Nat → Bool} {held : Bool}

theorem mem_slice {cs : List Value} {i a m : Nat} (h1 : a ≤ i) (h2 : i < a + m) (hi : i < cs.length) : cs[i] ∈ (cs.drop a).take m := by
  have : ((cs.drop a).take m)[i - a]? = some cs[i] := by
    rw [List.getElem?_take_of_lt (by omega), List.getElem?_drop, show a + (i - a) = i by omega, List.getElem?_eq_getElem hi]
  exact List.mem_of_getElem? this

theorem flat_open : ∀ (k : Nat) (t : TypeId) (fuel : Nat) (cs : List Value) (x : DataW H × List MemPlace), flatI P k t = true → DataW.trod enc P w base spare held fuel t cs = some x → IntCells cs ∧ x.2 = [] := by
  intro k
  induction k with
  | zero => intro t fuel cs x h; simp [flatI] at h
  | succ k ih =>
    intro t fuel cs x h hd
    unfold flatI at h
    split at h
    · rename_i q hu
      obtain rfl : q = .i64 := by simpa using h
      obtain ⟨n, rfl, rfl, hw⟩ := DataW.trod_int hu hd
      exact ⟨fun c hc => ⟨n, by simpa using hc, i64_wf hw⟩, rfl⟩
    · rename_i n e hu
      simp only [Bool.and_eq_true, decide_eq_true_eq] at h
      obtain ⟨xs, m, _, rfl, hl, hlen, hg⟩ := DataW.trod_array hu hd
      have hx : ∀ i, (hi : i < n) → IntCells ((cs.drop (i * P.cellsOf e)).take (P.cellsOf e)) ∧ (xs[i]'(by omega)).2 = [] := by
        intro i hi
        refine ih e m _ _ h.1 ?_
        rw [hg i hi, List.getElem?_eq_getElem (by omega)]
      refine ⟨fun c hc => ?_, ?_⟩
      · obtain ⟨i, hi, rfl⟩ := List.getElem_of_mem hc
        rw [hl, h.2] at hi
        have hce : 0 < P.cellsOf e := by
          rcases Nat.eq_zero_or_pos (P.cellsOf e) with h0 | h0
          · rw [h0] at hi; omega
          · exact h0
        have hq : i / P.cellsOf e < n := Nat.div_lt_of_lt_mul (by rw [Nat.mul_comm]; exact hi)
        have e1 := Nat.div_add_mod i (P.cellsOf e)
        have e2 := Nat.mod_lt i hce
        refine (hx _ hq).1 _ (mem_slice ?_ ?_ _)
        · rw [Nat.mul_comm]; omega
        · rw [Nat.mul_comm (i / P.cellsOf e)]; omega
      · refine List.flatMap_eq_nil_iff.2 fun y hy => ?_
        obtain ⟨i, hi, rfl⟩ := List.getElem_of_mem hy
        exact (hx i (by omega)).2
    · rename_i fs hu
      simp only [Bool.and_eq_true] at h
      obtain ⟨xs, m, _, rfl, hl, hlen, hg⟩ := DataW.trod_struct hu hd
      have hx : ∀ j, (hj : j < fs.size) → IntCells ((cs.drop fs[j].offset).take (P.cellsOf fs[j].type)) ∧ (xs[j]'(by omega)).2 = [] := by
        intro j hj
        have hf := List.all_eq_true.1 h.1 fs[j] (by simp)
        refine ih _ m _ _ hf ?_
        rw [hg j fs[j] (by simp [hj]), List.getElem?_eq_getElem (by omega)]
      refine ⟨fun c hc => ?_, ?_⟩
      · obtain ⟨i, hi, rfl⟩ := List.getElem_of_mem hc
        rw [hl] at hi
        have := List.all_eq_true.1 h.2 i (List.mem_range.2 hi)
        obtain ⟨f, hf, hfi⟩ := List.any_eq_true.1 this
        simp only [Bool.and_eq_true, decide_eq_true_eq] at hfi
        obtain ⟨j, hj, rfl⟩ := List.getElem_of_mem hf
        exact (hx j (by simpa using hj)).1 _ (mem_slice (by simpa using hfi.1) (by simpa using hfi.2) _)
      · refine List.flatMap_eq_nil_iff.2 fun y hy => ?_
        obtain ⟨i, hi, rfl⟩ := List.getElem_of_mem hy
        exact (hx i (by omega)).2
    · simp at h

theorem ints_list : ∀ {cs : List Value}, IntCells cs → ∃ l : List Int, cs = l.map (.int .i64 ·) ∧ ∀ x ∈ l, I64 x
  | [], _ => ⟨[], rfl, fun _ h => by cases h⟩
  | c :: cs, h => by
    obtain ⟨n, rfl, hn⟩ := h c (by simp)
    obtain ⟨l, rfl, hl⟩ := ints_list (cs := cs) fun c hc => h c (by simp [hc])
    exact ⟨n :: l, rfl, fun x hx => (List.mem_cons.1 hx).elim (fun e => e ▸ hn) (hl x)⟩

/-- An argument of such a type: its numbers, no places, and its reading in whatever world. -/
theorem open_flat {r : Reach} {b0 : Nat} {t : TypeId} {n k : Nat} {v : Value} {d : DataW H} {p : List MemPlace} (hf : flatI P k t = true) (hst : (match P.underlying t with | some (.struct _) | some (.array _ _) => true | _ => false) = true) (hC : P.cellsOf t = n)
    (hl : laidOutB P = true) (hr : P.readableRec t = true) (hrow : t < P.types.size) (hs : P.slicesRec t = false) (hi : P.ifacesRec t = false) (hve : P.veiledRec t = false)
    (hv : Value.okWide P w r b0 t v) (h : DataW.Trod enc P w base spare held t v d p) :
    ∃ l : List Int, l.length = n ∧ (∀ x ∈ l, I64 x) ∧ v = .agg (l.map (.int .i64 ·)).toArray ∧ p = [] ∧ ∀ (W' : World) (sp : Nat → Bool), DataW.Trod enc P W' base sp held t v d [] := by
  have hcs : ∃ cs, v = .agg cs ∧ cs.size = P.cellsOf t := by
    unfold Value.okWide at hv
    split at hv
    · obtain ⟨cs, h1, h2, _⟩ := hv; exact ⟨cs, h1, h2⟩
    · obtain ⟨cs, h1, h2, _⟩ := hv; exact ⟨cs, h1, h2⟩
    · rename_i h1 h2
      exfalso
      revert hst
      split
      · rename_i fs hu; exact absurd hu (h1 fs)
      · rename_i m e hu; exact absurd hu (h2 m e)
      · simp
  obtain ⟨cs, rfl, hsz⟩ := hcs
  obtain ⟨fuel, hd⟩ := id h
  obtain ⟨h1, h2⟩ := flat_open k t fuel _ _ hf hd
  obtain ⟨l, hl', hlr⟩ := ints_list h1
  have h2 : p = [] := h2
  subst h2
  have e : cs = (l.map (.int .i64 ·)).toArray := by
    cases cs; simpa [Value.cells] using hl'
  refine ⟨l, ?_, hlr, by rw [e], rfl, fun W' sp => ?_⟩
  · have := congrArg Array.size e
    simp at this; omega
  · exact Go.Trod_any hl hr hrow hs hi h (fun p hp => by cases hp) hve
end
theorem len_cons {l : List Int} {n : Nat} (h : l.length = n + 1) (hr : ∀ x ∈ l, I64 x) : ∃ a r, l = a :: r ∧ r.length = n ∧ I64 a ∧ ∀ x ∈ r, I64 x := by
  match l, h with
  | a :: r, h => exact ⟨a, r, rfl, by simpa using h, hr a (by simp), fun x hx => hr x (by simp [hx])⟩
theorem len_nil {l : List Int} (h : l.length = 0) : l = [] := by
  match l, h with
  | [], _ => rfl
end Go.Proofs.Ytipcoahafdolcaa.Ar2
