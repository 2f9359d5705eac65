/- Arguments that hold slices: opened for the machine, and shut behind it. -/
import Derived.Test.YtgdhpgjfebinhaaFop
import Derived.Below
import Derived.WideKeyArgs
import Derived.ChangeOld
namespace Go.Proofs.Ytgdhpgjfebinhaa.Ev
set_option linter.unusedSimpArgs false
open Go Go.RowKit Go.ChangeShapes Go.WideShapes
set_option linter.unusedVariables false
section
variable {H : Type} {enc : TypeId × Value → H} {P : Program} {w : World} {base : Nat} {held : Bool}
theorem fits_cons {α β : Type} {R : α → β → Prop} {a : α} {l : List α} {m : List β} (h : Fits R (a :: l) m) : ∃ b r, m = b :: r ∧ R a b ∧ Fits R l r := by
  cases m with
  | nil => cases h
  | cons b r => exact ⟨b, r, rfl, h.1, h.2⟩
theorem fits_nil {α β : Type} {R : α → β → Prop} {m : List β} (h : Fits R [] m) : m = [] := by
  cases m with
  | nil => rfl
  | cons b r => cases h
/-- An array or a struct. -/
theorem open_agg {k : Nat} {t : TypeId} {l : List CP} {r : Reach} {b0 : Nat} {v : Value} {d : DataW H} {ps : List MemPlace} (hp : pats P k t = some l)
    (hst : (match P.underlying t with | some (.struct _) | some (.array _ _) => true | _ => false) = true)
    (hv : Value.okWide P w r b0 t v) (h : DataW.Trod enc P w base (fun _ => true) held t v d ps) : ∃ cs : List Value, v = .agg cs.toArray ∧ Fits (CellIs w) l cs := by
  have hcs : ∃ cs, v = .agg cs ∧ cs.size = P.cellsOf t := by
    unfold Value.okWide at hv
    split at hv
    · obtain ⟨cs, h1, h2, _⟩ := hv; exact ⟨cs, h1, h2⟩
    · obtain ⟨cs, h1, h2, _⟩ := hv; exact ⟨cs, h1, h2⟩
    · rename_i h1 h2
      exfalso
      revert hst
      split
      · rename_i fs hu; exact absurd hu (h1 fs)
      · rename_i m e hu; exact absurd hu (h2 m e)
      · simp
  obtain ⟨cs, rfl, -⟩ := hcs
  obtain ⟨fuel, hd⟩ := h
  exact ⟨cs.toList, by simp, pats_fits k hp hd⟩
/-- What is no array and no struct. -/
theorem open_one {k : Nat} {t : TypeId} {c : CP} {r : Reach} {b0 : Nat} {v : Value} {d : DataW H} {ps : List MemPlace} (hp : pats P k t = some [c])
    (hst : (match P.underlying t with | some (.struct _) | some (.array _ _) | some (.interface _) | some (.func ..) | some (.map _ _) | some (.chan ..) | some .unsafePointer => false | _ => true) = true)
    (hv : Value.okWide P w r b0 t v) (h : DataW.Trod enc P w base (fun _ => true) held t v d ps) : CellIs w c v := by
  obtain ⟨fuel, hd⟩ := h
  have hf := pats_fits k hp hd
  have hn : ∀ cs, v ≠ .agg cs := by
    rintro cs rfl
    unfold Value.okWide at hv
    split at hv
    · rename_i fs hu; rw [hu] at hst; cases hst
    · rename_i m e hu; rw [hu] at hst; cases hst
    · unfold Cell.okWide at hv
      split at hv <;> first | (rename_i h1 h2; cases h2; done) | skip
      all_goals unfold Cell.ok at hv
      all_goals split at hv <;> simp_all
  have : v.cells.toList = [v] := by
    cases v <;> first | rfl | (rename_i cs; exact absurd rfl (hn cs))
  rw [this] at hf
  exact hf.1
theorem carry {t : TypeId} {v : Value} {d : DataW H} {ps : List MemPlace} {w' : World} (hlo : laidOutB P = true) (hre : P.readableRec t = true) (hrow : t < P.types.size) (hb : Below w.heap.size w w') (h : DataW.Trod enc P w 0 (fun _ => true) true t v d ps) :
    DataW.Trod enc P w' 0 (fun b => decide (b < w.heap.size)) true t v d ps := by
  have hl : ∀ p ∈ ps, p.block < w.heap.size := by
    obtain ⟨fuel, hd⟩ := h
    exact DataW.trod_lt fuel t _ _ hd
  exact WideElems.Trod_stays hlo hre hrow h (fun p hp => hb.same (hl p hp)) (fun p hp => by simpa using hl p hp)
end
/-- The rows of the arguments, in the order of the blocks. -/
def RowsOk (P : Program) (ρ : Env) (w : World) : Hp → List Pl → Prop
  | [], [] => True
  | some x :: H, p :: ps => (x.ro = true ∧ x.cells = [] ∧ ∃ A, x.abs = some A ∧ RowAt P ρ x A p w) ∧ RowsOk P ρ w H ps
  | _, _ => False
theorem RowsOk.nil {P : Program} {ρ : Env} {w : World} : RowsOk P ρ w [] [] := trivial
theorem RowsOk.cons {P : Program} {ρ : Env} {w : World} {x : Blk} {A : Abs} {p : Pl} {H : Hp} {ps : List Pl} (h1 : x.ro = true) (h2 : x.cells = []) (h3 : x.abs = some A) (h : RowAt P ρ x A p w) (t : RowsOk P ρ w H ps) : RowsOk P ρ w (some x :: H) (p :: ps) := ⟨⟨h1, h2, A, h3, h⟩, t⟩
theorem rowsOk_list {P : Program} {ρ : Env} {w : World} : ∀ {H : Hp} {ps : List Pl}, RowsOk P ρ w H ps → ∃ l : List (Blk × Pl), H = l.map (fun x => some x.1) ∧ ps = l.map (·.2) ∧ ∀ x ∈ l, x.1.ro = true ∧ x.1.cells = [] ∧ ∃ A, x.1.abs = some A ∧ RowAt P ρ x.1 A x.2 w
  | [], [], _ => ⟨[], rfl, rfl, fun _ h => by cases h⟩
  | some x :: H, p :: ps, h => by
    obtain ⟨l, rfl, rfl, hl⟩ := rowsOk_list h.2
    exact ⟨(x, p) :: l, rfl, rfl, fun y hy => (List.mem_cons.1 hy).elim (fun e => e ▸ h.1) (hl y)⟩
  | none :: _, _ :: _, h => by cases h
  | some _ :: _, [], h => by cases h
  | none :: _, [], h => by cases h
  | [], _ :: _, h => by cases h
theorem RowsOk.rel {P : Program} {ρ : Env} {w : World} {H : Hp} {ps : List Pl} (h : RowsOk P ρ w H ps) : HRel P ρ (plsSg ps) H w := by
  obtain ⟨l, rfl, rfl, hl⟩ := rowsOk_list h
  exact rows_rel l hl
theorem Post.below_all {P : Program} {ρ : Env} {σ σ' : Sg} {H H' : Hp} {w w' : World} (h : Post P ρ σ σ' H H' [] w w') : Below w.heap.size w w' :=
  ⟨h.os, h.tape, h.out, h.size, fun k hk => h.frame k hk fun b hb => by cases hb⟩
/-- A contract, told of a world. -/
theorem spec_world {P : Program} {F : Sig} {V : Vs} {xs : List Int} {bs : List Bool} {rs : List (Int → Int)} (h : Spec P F V xs bs rs) {w : World} {ps : List Pl} (hr : RowsOk P (envV V) w F.H ps) (ho : F.r.inside 0 = true) :
    Calls P F.f (denL (envV V) (plsSg ps) F.args).toArray w fun e w' => e = .returned (F.r.den (envV (V.add xs bs rs)) σ0) ∧ Below w.heap.size w w' := by
  refine (h (plsSg ps) w hr.rel).mono ?_
  rintro e w' ⟨σ', hp, rfl⟩
  exact ⟨congrArg _ (SV.den_agree (n := 0) (fun b hb => by omega) _ ho), hp.below_all⟩
/-- What is told of the length of a row. -/
theorem len_rng {sh : List CK} {cols : List (Int → Int)} {n : Nat} {p : Pl} {w : World} (h : RowIs sh cols n p w) : (0 : Int) ≤ n ∧ (n : Int) ≤ 9223372036854775807 := by
  have := h.le
  unfold maxLen at this
  omega
theorem text_code (s : ByteArray) : ∃ x : Int, s = deS x ∧ 0 ≤ x := ⟨enS s, (deS_enS s).symm, enS_nn s⟩
end Go.Proofs.Ytgdhpgjfebinhaa.Ev
