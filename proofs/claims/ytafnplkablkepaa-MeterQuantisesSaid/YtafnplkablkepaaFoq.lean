/- Arguments that hold slices of flat elements: their cells, and the rows that these name. -/
import Derived.Test.YtafnplkablkepaaFvw0
import Derived.OpenShut
import Derived.Deep.Modes
import Derived.WideShapes
import Derived.ChangeSame
import Derived.Below
import Derived.WideKeyArgs
import Derived.ChangeOld

namespace Go.Proofs.Ytafnplkablkepaa.Ev
set_option linter.unusedSimpArgs false
open Go Go.ChangeShapes Go.WideShapes
set_option linter.unusedVariables false

/-- A cell of an argument: a plain one, or a slice of flat elements. -/
inductive CP where
  | c (k : CK) | row (sh : List CK)
  deriving DecidableEq, Inhabited
def flatP : List CP → Option (List CK)
  | [] => some []
  | .c k :: l => (flatP l).map (k :: ·)
  | .row _ :: _ => none
def patsF (P : Program) (r : TypeId → Option (List CP)) : List Field → Nat → Nat → Option (List CP)
  | [], o, c => if o = c then some [] else none
  | f :: fs, o, c => match r f.type with
    | some l => if f.offset = o ∧ l.length = P.cellsOf f.type then (patsF P r fs (o + l.length) c).map (l ++ ·) else none
    | none => none
/-- The cells of a type. -/
def pats (P : Program) : Nat → TypeId → Option (List CP)
  | 0, _ => none
  | k + 1, t => match P.underlying t with
    | some .bool => some [.c .bool]
    | some (.int q) => some [.c (.int q)]
    | some (.float q) => some [.c (.float q)]
    | some .string => some [.c .str]
    | some (.slice e) => (match pats P k e with
      | some l => (match flatP l with
        | some sh => if sh.length = P.cellsOf e ∧ 0 < sh.length then some [.row sh] else none
        | none => none)
      | none => none)
    | some (.array n e) => (match pats P k e with
      | some l => if l.length = P.cellsOf e ∧ P.cellsOf t = n * l.length then some (List.replicate n l).flatten else none
      | none => none)
    | some (.struct fs) => patsF P (pats P k) fs.toList 0 (P.cellsOf t)
    | _ => none

def Fits {α β : Type} (R : α → β → Prop) : List α → List β → Prop
  | [], [] => True
  | a :: l, b :: m => R a b ∧ Fits R l m
  | _, _ => False
section
variable {α β : Type} {R : α → β → Prop}
theorem Fits.len : ∀ {l : List α} {m : List β}, Fits R l m → l.length = m.length
  | [], [], _ => rfl
  | a :: l, b :: m, h => by simp [Fits.len h.2]
  | [], _ :: _, h => by cases h
  | _ :: _, [], h => by cases h
theorem Fits.app : ∀ {l l' : List α} {m m' : List β}, Fits R l m → Fits R l' m' → Fits R (l ++ l') (m ++ m')
  | [], l', [], m', _, h => h
  | a :: l, l', b :: m, m', h, h' => ⟨h.1, Fits.app h.2 h'⟩
  | [], _, _ :: _, _, h, _ => by cases h
  | _ :: _, _, [], _, h, _ => by cases h
theorem Fits.rep {l : List α} {m : Nat} (hm : l.length = m) : ∀ {n : Nat} {cs : List β}, cs.length = n * m → (∀ i, i < n → Fits R l ((cs.drop (i * m)).take m)) → Fits R (List.replicate n l).flatten cs
  | 0, cs, hl, _ => by
    have : cs = [] := by cases cs <;> simp_all
    subst this; simp [Fits]
  | n + 1, cs, hl, h => by
    rw [List.replicate_succ, List.flatten_cons, ← List.take_append_drop m cs]
    rw [Nat.succ_mul] at hl
    refine Fits.app (by simpa using h 0 (by omega)) (Fits.rep hm (by rw [List.length_drop]; omega) fun i hi => ?_)
    have := h (i + 1) (by omega)
    rw [List.drop_drop]
    rwa [Nat.succ_mul, Nat.add_comm] at this
end
def CellK : CK → Value → Prop
  | .int k, v => ∃ n : Int, v = .int k n ∧ k.min ≤ n ∧ n ≤ k.max
  | .float k, v => ∃ b : Nat, v = .float k b ∧ (Lit.float k b).wf = true
  | .bool, v => ∃ b, v = .bool b
  | .str, v => ∃ s : ByteArray, v = .string s ∧ s.size ≤ maxLen
  | .complex _, _ => False
def CellIs (w : World) : CP → Value → Prop
  | .c k, v => CellK k v
  | .row sh, v => 0 < sh.length ∧ (v = .slice none 0 0 ∨ ∃ a len cap, v = .slice (some a) len cap ∧ len ≤ cap ∧ cap ≤ maxLen ∧
      ∀ j, j < cap → ∃ cs, Fits CellK sh cs ∧ ∀ i, i < sh.length → w.cell? (a.add (j * sh.length + i)) = cs[i]?)
theorem flatP_fits {w : World} : ∀ {l : List CP} {sh : List CK} {cs : List Value}, flatP l = some sh → Fits (CellIs w) l cs → Fits CellK sh cs
  | [], sh, cs, h, hf => by cases h; cases cs <;> simp_all [Fits]
  | .c k :: l, sh, cs, h, hf => by
    simp only [flatP, Option.map_eq_some_iff] at h
    obtain ⟨s, hs, rfl⟩ := h
    cases cs with
    | nil => cases hf
    | cons b m => exact ⟨hf.1, flatP_fits hs hf.2⟩
  | .row _ :: _, sh, cs, h, _ => by cases h
theorem flatP_len : ∀ {l : List CP} {sh : List CK}, flatP l = some sh → sh.length = l.length
  | [], sh, h => by cases h; rfl
  | .c k :: l, sh, h => by
    simp only [flatP, Option.map_eq_some_iff] at h
    obtain ⟨s, hs, rfl⟩ := h
    simp [flatP_len hs]
  | .row _ :: _, sh, h => by cases h
theorem cells_get {w : World} {base : Nat} {a : Addr} {n : Nat} {cs : List Value} (h : w.cells? base a n = some cs) : cs.length = n ∧ ∀ i, i < n → w.cell? (a.add i) = cs[i]? := by
  unfold World.cells? at h
  split at h
  · exact ⟨by simpa using mapM_some_length h, fun i hi => by simpa using mapM_some_get h i i (by simp [hi])⟩
  · cases h
theorem add_add (a : Addr) (x i : Nat) (h : a.spot = none) : (a.add x).add i = a.add (x + i) := by
  unfold Addr.add
  cases a
  simp only at h; subst h
  split <;> split <;> simp_all [Nat.add_assoc]
theorem cell_spot {w : World} {a : Addr} {v : Value} (h : w.cell? a = some v) : a.spot = none := by
  unfold World.cell? at h
  split at h
  · split at h
    · cases h
    · rename_i hs; cases hx : a.spot <;> simp_all
  · cases h
section
variable {H : Type} {enc : TypeId × Value → H} {P : Program} {w : World} {base : Nat} {held : Bool}
theorem patsF_fits {r : TypeId → Option (List CP)} {cs : List Value} : ∀ {fs : List Field} {o c : Nat} {l : List CP}, patsF P r fs o c = some l → cs.length = c →
    (∀ f ∈ fs, ∀ l', r f.type = some l' → Fits (CellIs w) l' ((cs.drop f.offset).take (P.cellsOf f.type))) → Fits (CellIs w) l (cs.drop o)
  | [], o, c, l, h, hl, _ => by
    simp only [patsF] at h
    split at h
    · cases h
      rename_i e
      rw [List.drop_eq_nil_of_le (by omega)]
      trivial
    · cases h
  | f :: fs, o, c, l, h, hl, hf => by
    simp only [patsF] at h
    split at h
    · rename_i l1 h1
      split at h
      · rename_i e
        obtain ⟨l2, h2, rfl⟩ := Option.map_eq_some_iff.1 h
        have a1 := hf f (by simp) l1 h1
        rw [e.1, ← e.2] at a1
        rw [← List.take_append_drop l1.length (cs.drop o)]
        refine a1.app ?_
        rw [List.drop_drop]
        exact patsF_fits h2 hl fun f' hf' => hf f' (by simp [hf'])
      · cases h
    · cases h
theorem pats_fits : ∀ (k : Nat) {t : TypeId} {fuel : Nat} {cs : List Value} {x : DataW H × List MemPlace} {l : List CP}, pats P k t = some l → DataW.trod enc P w base (fun _ => true) held fuel t cs = some x → Fits (CellIs w) l cs := by
  intro k
  induction k with
  | zero => intro t fuel cs x l h; simp [pats] at h
  | succ k ih =>
    intro t fuel cs x l h hd
    unfold pats at h
    split at h
    · rename_i hu; cases h
      obtain ⟨b, rfl, -⟩ := DataW.trod_bool hu hd
      exact ⟨⟨b, rfl⟩, trivial⟩
    · rename_i q hu; cases h
      obtain ⟨n, rfl, -, hw⟩ := DataW.trod_int hu hd
      simp only [Lit.wf, Bool.and_eq_true, decide_eq_true_eq] at hw
      exact ⟨⟨n, rfl, hw⟩, trivial⟩
    · rename_i q hu; cases h
      have : ∃ b, cs = [.float q b] ∧ (Lit.float q b).wf = true := by
        cases fuel with
        | zero => simp [DataW.trod] at hd
        | succ n =>
          unfold DataW.trod at hd
          rw [hu] at hd
          split at hd <;> simp_all
      obtain ⟨b, rfl, hw⟩ := this
      exact ⟨⟨b, rfl, hw⟩, trivial⟩
    · rename_i hu; cases h
      obtain ⟨s, rfl, -, hs⟩ := DataW.trod_string hu hd
      exact ⟨⟨s, rfl, hs⟩, trivial⟩
    · rename_i e hu
      split at h
      · rename_i l1 h1
        split at h
        · rename_i sh h2
          split at h <;> cases h
          rename_i hsz
          have hl1 : l1.length = sh.length := (flatP_len h2).symm
          rcases DataW.trod_slice hu hd with ⟨rfl, -⟩ | ⟨a, len, cap, elems, rest, n, -, rfl, -, hb, hlc, hcm, he, hel, hre, -⟩
          · exact ⟨⟨hsz.2, .inl rfl⟩, trivial⟩
          · refine ⟨⟨hsz.2, .inr ⟨a, len, cap, rfl, hlc, hcm, fun j hj => ?_⟩⟩, trivial⟩
            have hr := hre rfl
            have hone : ∃ y, (w.cells? base (a.add (j * P.cellsOf e)) (P.cellsOf e)).bind (DataW.trod enc P w base (fun _ => true) held n e) = some y := by
              rcases Nat.lt_or_ge j len with hjl | hjl
              · rw [hel j hjl]
                exact ⟨_, List.getElem?_eq_getElem (by omega)⟩
              · have := hr.2 (j - len) (by omega)
                rw [show len + (j - len) = j by omega] at this
                rw [this]
                exact ⟨_, List.getElem?_eq_getElem (by omega)⟩
            have hz : ∃ y, (w.cells? base (a.add (0 * P.cellsOf e)) (P.cellsOf e)).bind (DataW.trod enc P w base (fun _ => true) held n e) = some y := by
              rcases Nat.lt_or_ge 0 len with hjl | hjl
              · rw [hel 0 hjl]
                exact ⟨_, List.getElem?_eq_getElem (by omega)⟩
              · have := hr.2 0 (by omega)
                rw [show len + 0 = 0 by omega] at this
                rw [this]
                exact ⟨_, List.getElem?_eq_getElem (by omega)⟩
            have hspot : a.spot = none := by
              obtain ⟨y, hy⟩ := hz
              obtain ⟨cs, hc, -⟩ := Option.bind_eq_some_iff.1 hy
              obtain ⟨hl, hg⟩ := cells_get hc
              have := hg 0 (by omega)
              rw [Nat.zero_mul] at this
              have e0 : (a.add 0).add 0 = a := by simp [Addr.add]
              rw [e0, List.getElem?_eq_getElem (by omega)] at this
              exact cell_spot this
            obtain ⟨y, hy⟩ := hone
            obtain ⟨cs, hc, ht⟩ := Option.bind_eq_some_iff.1 hy
            obtain ⟨hl, hg⟩ := cells_get hc
            refine ⟨cs, flatP_fits h2 (ih h1 ht), fun i hi => ?_⟩
            rw [← hg i (by omega), add_add _ _ _ hspot, hsz.1]
        · cases h
      · cases h
    · rename_i n e hu
      split at h
      · rename_i l1 h1
        split at h <;> cases h
        rename_i hsz
        obtain ⟨xs, m, -, -, hl, hlen, hg⟩ := DataW.trod_array hu hd
        refine Fits.rep (m := l1.length) rfl (by rw [hl, hsz.2]) fun i hi => ?_
        have := hg i hi
        rw [List.getElem?_eq_getElem (by omega), ← hsz.1] at this
        exact ih h1 this
      · cases h
    · rename_i fs hu
      obtain ⟨xs, m, -, -, hl, hlen, hg⟩ := DataW.trod_struct hu hd
      have := patsF_fits (w := w) (cs := cs) h hl fun f hf l' hl' => by
        obtain ⟨j, hj, rfl⟩ := List.getElem_of_mem hf
        have := hg j fs[j] (by simp at hj; simp [hj])
        simp only [Array.getElem_toList] at *
        rw [List.getElem?_eq_getElem (by simp at hj; omega)] at this
        exact ih hl' this
      simpa using this
    · cases h
end

/-- What the columns say of the element j. -/
def cellsC (j : Int) : List CK → List (Int → Int) → List Value
  | .int k :: s, c :: l => .int k (c j) :: cellsC j s l
  | .float k :: s, c :: l => .float k (c j).toNat :: cellsC j s l
  | .complex k :: s, c :: d :: l => .complex k (c j).toNat (d j).toNat :: cellsC j s l
  | .bool :: s, c :: l => .bool (!(c j == 0)) :: cellsC j s l
  | .str :: s, c :: l => .string (deS (c j)) :: cellsC j s l
  | _, _ => []
theorem cellsC_V (ρ : Env) (j : Int) : ∀ (s : List CK) (l : List NE), cellsV ρ j s l = cellsC j s (l.map fun c => c.aden ρ)
  | [], l => by cases l <;> simp [cellsC, cellsV]
  | .int k :: s, [] => by simp [cellsC, cellsV]
  | .float k :: s, [] => by simp [cellsC, cellsV]
  | .complex k :: s, [] => by simp [cellsC, cellsV]
  | .complex k :: s, [_] => by simp [cellsC, cellsV]
  | .bool :: s, [] => by simp [cellsC, cellsV]
  | .str :: s, [] => by simp [cellsC, cellsV]
  | .int k :: s, c :: l => by simp [cellsC, cellsV, cellsC_V ρ j s l]
  | .float k :: s, c :: l => by simp [cellsC, cellsV, cellsC_V ρ j s l]
  | .complex k :: s, c :: d :: l => by simp [cellsC, cellsV, cellsC_V ρ j s l]
  | .bool :: s, c :: l => by simp [cellsC, cellsV, cellsC_V ρ j s l]
  | .str :: s, c :: l => by simp [cellsC, cellsV, cellsC_V ρ j s l]
/-- The numbers of a column. -/
def ColOk : CK → (Int → Int) → Prop
  | .int k, c => ∀ q, k.min ≤ c q ∧ c q ≤ k.max
  | .float k, c => ∀ q, 0 ≤ c q ∧ (Lit.float k (c q).toNat).wf = true
  | .bool, c => ∀ q, 0 ≤ c q ∧ c q ≤ 1
  | .str, c => ∀ q, 0 ≤ c q ∧ (deS (c q)).size ≤ maxLen
  | .complex _, _ => True
def numV : Value → Int
  | .int _ n => n
  | .float _ b => b
  | .bool b => if b then 1 else 0
  | .string s => enS s
  | _ => 0
def colF (n : Nat) (f : Nat → Value) : Int → Int := fun q => if 0 ≤ q ∧ q.toNat < n then numV (f q.toNat) else 0
def mkCols (n : Nat) : List CK → (Nat → List Value) → List (Int → Int)
  | [], _ => []
  | k :: s, f => colF n (fun j => (f j).headD .nilFunc) :: mkCols n s fun j => (f j).tail
theorem colF_at {n j : Nat} (h : j < n) (f : Nat → Value) : colF n f (j : Int) = numV (f j) := by
  unfold colF
  rw [if_pos ⟨by omega, by simpa using h⟩]; simp
theorem deS_zero : (deS 0).size = 0 := by
  have : deS 0 = ⟨#[]⟩ := by unfold deS; rw [show (0 : Int).toNat = 0 from rfl, deL]; rfl
  rw [this]; rfl
theorem mkCols_ok : ∀ {s : List CK} {n : Nat} {f : Nat → List Value}, (∀ j, j < n → Fits CellK s (f j)) → (∀ j, j < n → cellsC (j : Int) s (mkCols n s f) = f j) ∧ Fits ColOk s (mkCols n s f)
  | [], n, f, h => by
    refine ⟨fun j hj => ?_, trivial⟩
    have := h j hj
    cases e : f j with
    | nil => rfl
    | cons a l => rw [e] at this; cases this
  | k :: s, n, f, h => by
    have ht : ∀ j, j < n → Fits CellK s (f j).tail := fun j hj => by
      have := h j hj
      cases e : f j with
      | nil => rw [e] at this; cases this
      | cons a l => rw [e] at this; exact this.2
    have hh : ∀ j, j < n → ∃ v, f j = v :: (f j).tail ∧ CellK k v := fun j hj => by
      have := h j hj
      cases e : f j with
      | nil => rw [e] at this; cases this
      | cons a l => rw [e] at this; exact ⟨a, rfl, this.1⟩
    obtain ⟨h1, h2⟩ := mkCols_ok ht
    have one : ∀ q : Int, (0 ≤ q ∧ q.toNat < n) → ∃ v, CellK k v ∧ colF n (fun j => (f j).headD .nilFunc) q = numV v := fun q hq => by
      obtain ⟨v, hv, hk⟩ := hh q.toNat hq.2
      refine ⟨v, hk, ?_⟩
      unfold colF
      rw [if_pos hq]; show numV ((f q.toNat).headD .nilFunc) = _; rw [hv]; rfl
    have zero : ∀ q : Int, ¬ (0 ≤ q ∧ q.toNat < n) → colF n (fun j => (f j).headD .nilFunc) q = 0 := fun q hq => by
      unfold colF; rw [if_neg hq]
    have at_ : ∀ j, j < n → ∀ v, f j = v :: (f j).tail → colF n (fun j => (f j).headD .nilFunc) (j : Int) = numV v := fun j hj v hv => by
      rw [colF_at hj]; show numV ((f j).headD .nilFunc) = _; rw [hv]; rfl
    cases k with
    | int k =>
      refine ⟨fun j hj => ?_, fun q => ?_, h2⟩
      · obtain ⟨v, hv, n', rfl, -⟩ := hh j hj
        simp only [mkCols, cellsC, at_ j hj _ hv, numV]
        rw [h1 j hj]; exact hv.symm
      · by_cases hq : 0 ≤ q ∧ q.toNat < n
        · obtain ⟨v, ⟨n', rfl, hb⟩, e⟩ := one q hq
          rw [e]; exact hb
        · rw [zero q hq]; cases k <;> decide
    | float k =>
      refine ⟨fun j hj => ?_, fun q => ?_, h2⟩
      · obtain ⟨v, hv, n', rfl, -⟩ := hh j hj
        simp only [mkCols, cellsC, at_ j hj _ hv, numV, Int.toNat_natCast]
        rw [h1 j hj]; exact hv.symm
      · by_cases hq : 0 ≤ q ∧ q.toNat < n
        · obtain ⟨v, ⟨n', rfl, hb⟩, e⟩ := one q hq
          rw [e]; exact ⟨by simp [numV], by simpa [numV] using hb⟩
        · rw [zero q hq]; exact ⟨by omega, by cases k <;> decide⟩
    | bool =>
      refine ⟨fun j hj => ?_, fun q => ?_, h2⟩
      · obtain ⟨v, hv, b, rfl⟩ := hh j hj
        simp only [mkCols, cellsC, at_ j hj _ hv, numV]
        rw [h1 j hj, hv]
        cases b <;> simp
      · by_cases hq : 0 ≤ q ∧ q.toNat < n
        · obtain ⟨v, ⟨b, rfl⟩, e⟩ := one q hq
          rw [e]; cases b <;> simp [numV]
        · rw [zero q hq]; omega
    | str =>
      refine ⟨fun j hj => ?_, fun q => ?_, h2⟩
      · obtain ⟨v, hv, s', rfl, -⟩ := hh j hj
        simp only [mkCols, cellsC, at_ j hj _ hv, numV, deS_enS]
        rw [h1 j hj]; exact hv.symm
      · by_cases hq : 0 ≤ q ∧ q.toNat < n
        · obtain ⟨v, ⟨s', rfl, hb⟩, e⟩ := one q hq
          rw [e]
          exact ⟨Int.natCast_nonneg _, by simpa only [numV, deS_enS] using hb⟩
        · rw [zero q hq]; exact ⟨by omega, by rw [deS_zero]; omega⟩
    | complex k =>
      have none' : ∀ j, ¬ j < n := fun j hj => by
        obtain ⟨v, -, hk⟩ := hh j hj
        exact hk
      exact ⟨fun j hj => absurd hj (none' j), trivial, h2⟩

/-- The value of a slice that lies there. -/
def aslV (p : Pl) (n : Nat) : Value := match p.gh with
  | some a => .slice a 0 0
  | none => .slice (some ⟨p.blk, p.off, none⟩) n p.cap
/-- The columns say what lies there. -/
structure RowIs (sh : List CK) (cols : List (Int → Int)) (n : Nat) (p : Pl) (w : World) : Prop where
  ok : Fits ColOk sh cols
  le : n ≤ maxLen
  gh : ∀ a, p.gh = some a → n = 0
  cp : p.gh = none → n ≤ p.cap
  at_ : p.gh = none → ∃ (c : Array Value) (t : TypeId) (fr : Nat × Nat), w.heap[p.blk]? = some (.cells c t fr) ∧
    ∀ j i : Nat, j < n → i < sh.length → c[p.off + j * sh.length + i]? = (cellsC j sh cols)[i]?
theorem cell_at {w : World} {a : Addr} {v : Value} (h : w.cell? a = some v) : ∃ c t fr, w.heap[a.block]? = some (.cells c t fr) ∧ c[a.off]? = some v := by
  unfold World.cell? at h
  split at h
  · rename_i c t fr hh
    split at h
    · cases h
    · exact ⟨c, t, fr, hh, h⟩
  · cases h
/-- A slice of an argument is a row. -/
theorem row_open {w : World} {sh : List CK} {v : Value} (h : CellIs w (.row sh) v) : ∃ (p : Pl) (n : Nat) (cols : List (Int → Int)), v = aslV p n ∧ RowIs sh cols n p w := by
  obtain ⟨hp, rfl | ⟨a, len, cap, rfl, hl, hc, hj⟩⟩ := h
  · refine ⟨⟨0, 0, 0, some none⟩, 0, mkCols 0 sh fun _ => [], rfl, (mkCols_ok fun j hj => by omega).2, by omega, (fun _ _ => rfl), (fun h => by cases h), (fun h => by cases h)⟩
  · rcases Nat.eq_zero_or_pos cap with h0 | h0
    · subst h0
      obtain rfl : len = 0 := by omega
      exact ⟨⟨0, 0, 0, some (some a)⟩, 0, mkCols 0 sh fun _ => [], rfl, (mkCols_ok fun j hj => by omega).2, by omega, (fun _ _ => rfl), (fun h => by cases h), (fun h => by cases h)⟩
    · have hex : ∀ j, ∃ cs, j < cap → Fits CellK sh cs ∧ ∀ i, i < sh.length → w.cell? (a.add (j * sh.length + i)) = cs[i]? := fun j => by
        rcases Nat.lt_or_ge j cap with h1 | h1
        · obtain ⟨cs, h2⟩ := hj j h1
          exact ⟨cs, fun _ => h2⟩
        · exact ⟨[], fun h => by omega⟩
      let f : Nat → List Value := fun j => (hex j).choose
      have hf : ∀ j, j < cap → Fits CellK sh (f j) ∧ ∀ i, i < sh.length → w.cell? (a.add (j * sh.length + i)) = (f j)[i]? := fun j => (hex j).choose_spec
      have hsome : ∀ j i, j < cap → i < sh.length → ∃ v, (f j)[i]? = some v := fun j i h1 h2 => ⟨_, List.getElem?_eq_getElem (by rw [← (hf j h1).1.len]; exact h2)⟩
      obtain ⟨v0, hv0⟩ := hsome 0 0 h0 hp
      have hc0 := (hf 0 h0).2 0 hp
      rw [hv0] at hc0
      have e0 : a.add (0 * sh.length + 0) = a := by simp [Addr.add]
      rw [e0] at hc0
      have hs := cell_spot hc0
      obtain ⟨c, t, fr, hh, -⟩ := cell_at hc0
      obtain ⟨h1, h2⟩ := mkCols_ok (n := len) (s := sh) (f := f) fun j hj => (hf j (by omega)).1
      have ea : a = ⟨a.block, a.off, none⟩ := by cases a; simp only at hs; subst hs; rfl
      refine ⟨⟨a.block, cap, a.off, none⟩, len, mkCols len sh f, ?_, h2, by omega, (fun _ h => by cases h), (fun _ => hl), fun _ => ⟨c, t, fr, hh, fun j i hj hi => ?_⟩⟩
      · show Value.slice (some a) len cap = Value.slice (some ⟨a.block, a.off, none⟩) len cap
        rw [← ea]
      · rw [h1 j hj, ← (hf j (by omega)).2 i hi]
        obtain ⟨v, hv⟩ := hsome j i (by omega) hi
        have hcell := (hf j (by omega)).2 i hi
        rw [hv] at hcell
        rw [hcell]
        obtain ⟨c', t', fr', hh', hv'⟩ := cell_at hcell
        have eb : (a.add (j * sh.length + i)).block = a.block := by unfold Addr.add; split <;> rfl
        have eo : (a.add (j * sh.length + i)).off = a.off + (j * sh.length + i) := by
          unfold Addr.add
          split
          · rename_i h0; rw [h0]; rfl
          · rfl
        rw [eb, hh] at hh'
        cases hh'
        rw [eo] at hv'
        simpa [Nat.add_assoc] using hv'
/-- A row for the machine. -/
theorem RowIs.rowAt {P : Program} {ρ : Env} {sh : List CK} {cols : List (Int → Int)} {n : Nat} {p : Pl} {w : World} (h : RowIs sh cols n p w) {x : Blk} {A : Abs} (hx : x.ro = true) (hs : A.sh = sh) (hn : A.n.den ρ = n)
    (hf : fitC A.sh A.cols = true) (hc : (A.cols.map fun c => c.aden ρ) = cols) : RowAt P ρ x A p w := by
  subst hs hc
  refine ⟨by rw [hn]; omega, hf, (fun a ha => by rw [hn, h.gh a ha]; rfl), (fun hg => ?_), (fun hg => by rw [hn]; simpa using h.cp hg)⟩
  obtain ⟨c, t, fr, hh, hcell⟩ := h.at_ hg
  refine ⟨c, t, fr, hh, fun j i hj hi => ?_, fun h => by rw [hx] at h; cases h⟩
  rw [hn] at hj
  rw [cellsC_V]
  exact hcell j i (by simpa using hj) hi
def plsSg (l : List Pl) : Sg := ⟨fun b => (l.getD b ⟨0, 0, 0, none⟩).blk, fun b => (l.getD b ⟨0, 0, 0, none⟩).cap, fun b => (l.getD b ⟨0, 0, 0, none⟩).off, fun b => (l.getD b ⟨0, 0, 0, none⟩).gh⟩
/-- The world holds the rows of the arguments. -/
theorem rows_rel {P : Program} {ρ : Env} {w : World} (l : List (Blk × Pl)) (h : ∀ x ∈ l, x.1.ro = true ∧ x.1.cells = [] ∧ ∃ A, x.1.abs = some A ∧ RowAt P ρ x.1 A x.2 w) : HRel P ρ (plsSg (l.map (·.2))) (l.map fun x => some x.1) w := by
  have hget : ∀ b x, (l.map fun x => some x.1)[b]? = some (some x) → ∃ p, l[b]? = some (x, p) ∧ (plsSg (l.map (·.2))).pl b = p := fun b x hb => by
    rw [List.getElem?_map, Option.map_eq_some_iff] at hb
    obtain ⟨y, hy, e⟩ := hb
    cases e
    refine ⟨y.2, hy, ?_⟩
    simp [Sg.pl, plsSg, List.getD, hy]
  refine ⟨fun b x hb => ?_, fun b b' x x' hb hb' hs _ _ _ => ?_⟩
  · obtain ⟨p, hl, hp⟩ := hget b x hb
    obtain ⟨h1, h2, A, hA, hr⟩ := h _ (List.mem_of_getElem? hl)
    simp only at h1 h2 hA hr
    rw [hp]
    exact ⟨by rw [h2]; rfl, BlkAt.ofRow hA hr⟩
  · exfalso
    obtain ⟨p, hl, -⟩ := hget b x hb
    obtain ⟨p', hl', -⟩ := hget b' x' hb'
    obtain ⟨h1, h2, A, hA, -⟩ := h _ (List.mem_of_getElem? hl)
    obtain ⟨h1', h2', A', hA', -⟩ := h _ (List.mem_of_getElem? hl')
    simp only at h1 hA h1' hA'
    rcases hs with hs | hs
    · simp [Blk.shd, h1, hA] at hs
    · simp [Blk.shd, h1', hA'] at hs
end Go.Proofs.Ytafnplkablkepaa.Ev

/-! Arguments that hold slices: opened for the machine, and shut behind it. -/
namespace Go.Proofs.Ytafnplkablkepaa.Ev
set_option linter.unusedSimpArgs false
open Go Go.RowKit Go.ChangeShapes Go.WideShapes
set_option linter.unusedVariables false
section
variable {H : Type} {enc : TypeId × Value → H} {P : Program} {w : World} {base : Nat} {held : Bool}
theorem fits_cons {α β : Type} {R : α → β → Prop} {a : α} {l : List α} {m : List β} (h : Fits R (a :: l) m) : ∃ b r, m = b :: r ∧ R a b ∧ Fits R l r := by
  cases m with
  | nil => cases h
  | cons b r => exact ⟨b, r, rfl, h.1, h.2⟩
theorem fits_nil {α β : Type} {R : α → β → Prop} {m : List β} (h : Fits R [] m) : m = [] := by
  cases m with
  | nil => rfl
  | cons b r => cases h
/-- An array or a struct. -/
theorem open_agg {k : Nat} {t : TypeId} {l : List CP} {r : Reach} {b0 : Nat} {v : Value} {d : DataW H} {ps : List MemPlace} (hp : pats P k t = some l)
    (hst : (match P.underlying t with | some (.struct _) | some (.array _ _) => true | _ => false) = true)
    (hv : Value.okWide P w r b0 t v) (h : DataW.Trod enc P w base (fun _ => true) held t v d ps) : ∃ cs : List Value, v = .agg cs.toArray ∧ Fits (CellIs w) l cs := by
  have hcs : ∃ cs, v = .agg cs ∧ cs.size = P.cellsOf t := by
    unfold Value.okWide at hv
    split at hv
    · obtain ⟨cs, h1, h2, _⟩ := hv; exact ⟨cs, h1, h2⟩
    · obtain ⟨cs, h1, h2, _⟩ := hv; exact ⟨cs, h1, h2⟩
    · rename_i h1 h2
      exfalso
      revert hst
      split
      · rename_i fs hu; exact absurd hu (h1 fs)
      · rename_i m e hu; exact absurd hu (h2 m e)
      · simp
  obtain ⟨cs, rfl, -⟩ := hcs
  obtain ⟨fuel, hd⟩ := h
  exact ⟨cs.toList, by simp, pats_fits k hp hd⟩
/-- What is no array and no struct. -/
theorem open_one {k : Nat} {t : TypeId} {c : CP} {r : Reach} {b0 : Nat} {v : Value} {d : DataW H} {ps : List MemPlace} (hp : pats P k t = some [c])
    (hst : (match P.underlying t with | some (.struct _) | some (.array _ _) | some (.interface _) | some (.func ..) | some (.map _ _) | some (.chan ..) | some .unsafePointer => false | _ => true) = true)
    (hv : Value.okWide P w r b0 t v) (h : DataW.Trod enc P w base (fun _ => true) held t v d ps) : CellIs w c v := by
  obtain ⟨fuel, hd⟩ := h
  have hf := pats_fits k hp hd
  have hn : ∀ cs, v ≠ .agg cs := by
    rintro cs rfl
    unfold Value.okWide at hv
    split at hv
    · rename_i fs hu; rw [hu] at hst; cases hst
    · rename_i m e hu; rw [hu] at hst; cases hst
    · unfold Cell.okWide at hv
      split at hv <;> first | (rename_i h1 h2; cases h2; done) | skip
      all_goals unfold Cell.ok at hv
      all_goals split at hv <;> simp_all
  have : v.cells.toList = [v] := by
    cases v <;> first | rfl | (rename_i cs; exact absurd rfl (hn cs))
  rw [this] at hf
  exact hf.1
theorem carry {t : TypeId} {v : Value} {d : DataW H} {ps : List MemPlace} {w' : World} (hlo : laidOutB P = true) (hre : P.readableRec t = true) (hrow : t < P.types.size) (hb : Below w.heap.size w w') (h : DataW.Trod enc P w 0 (fun _ => true) true t v d ps) :
    DataW.Trod enc P w' 0 (fun b => decide (b < w.heap.size)) true t v d ps := by
  have hl : ∀ p ∈ ps, p.block < w.heap.size := by
    obtain ⟨fuel, hd⟩ := h
    exact DataW.trod_lt fuel t _ _ hd
  exact WideElems.Trod_stays hlo hre hrow h (fun p hp => hb.same (hl p hp)) (fun p hp => by simpa using hl p hp)
end
/-- The rows of the arguments, in the order of the blocks. -/
def RowsOk (P : Program) (ρ : Env) (w : World) : Hp → List Pl → Prop
  | [], [] => True
  | some x :: H, p :: ps => (x.ro = true ∧ x.cells = [] ∧ ∃ A, x.abs = some A ∧ RowAt P ρ x A p w) ∧ RowsOk P ρ w H ps
  | _, _ => False
theorem RowsOk.nil {P : Program} {ρ : Env} {w : World} : RowsOk P ρ w [] [] := trivial
theorem RowsOk.cons {P : Program} {ρ : Env} {w : World} {x : Blk} {A : Abs} {p : Pl} {H : Hp} {ps : List Pl} (h1 : x.ro = true) (h2 : x.cells = []) (h3 : x.abs = some A) (h : RowAt P ρ x A p w) (t : RowsOk P ρ w H ps) : RowsOk P ρ w (some x :: H) (p :: ps) := ⟨⟨h1, h2, A, h3, h⟩, t⟩
theorem rowsOk_list {P : Program} {ρ : Env} {w : World} : ∀ {H : Hp} {ps : List Pl}, RowsOk P ρ w H ps → ∃ l : List (Blk × Pl), H = l.map (fun x => some x.1) ∧ ps = l.map (·.2) ∧ ∀ x ∈ l, x.1.ro = true ∧ x.1.cells = [] ∧ ∃ A, x.1.abs = some A ∧ RowAt P ρ x.1 A x.2 w
  | [], [], _ => ⟨[], rfl, rfl, fun _ h => by cases h⟩
  | some x :: H, p :: ps, h => by
    obtain ⟨l, rfl, rfl, hl⟩ := rowsOk_list h.2
    exact ⟨(x, p) :: l, rfl, rfl, fun y hy => (List.mem_cons.1 hy).elim (fun e => e ▸ h.1) (hl y)⟩
  | none :: _, _ :: _, h => by cases h
  | some _ :: _, [], h => by cases h
  | none :: _, [], h => by cases h
  | [], _ :: _, h => by cases h
theorem RowsOk.rel {P : Program} {ρ : Env} {w : World} {H : Hp} {ps : List Pl} (h : RowsOk P ρ w H ps) : HRel P ρ (plsSg ps) H w := by
  obtain ⟨l, rfl, rfl, hl⟩ := rowsOk_list h
  exact rows_rel l hl
theorem Post.below_all {P : Program} {ρ : Env} {σ σ' : Sg} {H H' : Hp} {w w' : World} (h : Post P ρ σ σ' H H' [] w w') : Below w.heap.size w w' :=
  ⟨h.os, h.tape, h.out, h.size, fun k hk => h.frame k hk fun b hb => by cases hb⟩
/-- A contract, told of a world. -/
theorem spec_world {P : Program} {F : Sig} {V : Vs} {xs : List Int} {bs : List Bool} {rs : List (Int → Int)} (h : Spec P F V xs bs rs) {w : World} {ps : List Pl} (hr : RowsOk P (envV V) w F.H ps) (ho : F.r.inside 0 = true) :
    Calls P F.f (denL (envV V) (plsSg ps) F.args).toArray w fun e w' => e = .returned (F.r.den (envV (V.add xs bs rs)) σ0) ∧ Below w.heap.size w w' := by
  refine (h (plsSg ps) w hr.rel).mono ?_
  rintro e w' ⟨σ', hp, rfl⟩
  exact ⟨congrArg _ (SV.den_agree (n := 0) (fun b hb => by omega) _ ho), hp.below_all⟩
/-- What is told of the length of a row. -/
theorem len_rng {sh : List CK} {cols : List (Int → Int)} {n : Nat} {p : Pl} {w : World} (h : RowIs sh cols n p w) : (0 : Int) ≤ n ∧ (n : Int) ≤ 9223372036854775807 := by
  have := h.le
  unfold maxLen at this
  omega
theorem text_code (s : ByteArray) : ∃ x : Int, s = deS x ∧ 0 ≤ x := ⟨enS s, (deS_enS s).symm, enS_nn s⟩
end Go.Proofs.Ytafnplkablkepaa.Ev
