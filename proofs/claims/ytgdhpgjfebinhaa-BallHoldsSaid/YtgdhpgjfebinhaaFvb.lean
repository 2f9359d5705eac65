/- The symbolic machine's memory, with rows of unknown length, and how a world stands to it. -/
import Derived.Test.YtgdhpgjfebinhaaFva
import Derived.Laws.StructEq
namespace Go.Proofs.Ytgdhpgjfebinhaa.Ev
set_option linter.unusedSimpArgs false
open Go Go.RowKit
set_option linter.unusedVariables false

/-- The kinds of the cells of a row's elements. -/
inductive CK where
  | int (k : IntKind) | float (k : FloatKind) | complex (k : FloatKind) | bool | str
  deriving DecidableEq, Repr, Inhabited
/-- The cells of the element j. -/
def cellsE (j : NE) : List CK → List NE → List SV
  | .int k :: s, c :: l => .int k (mkSel c j) :: cellsE j s l
  | .float k :: s, c :: l => .float k (mkSel c j) :: cellsE j s l
  | .complex k :: s, c :: d :: l => .complex k (mkSel c j) (mkSel d j) :: cellsE j s l
  | .bool :: s, c :: l => .bool (mkNot (mkIcmp .eql (mkSel c j) (.lit 0))) :: cellsE j s l
  | .str :: s, c :: l => .strn (mkSel c j) :: cellsE j s l
  | _, _ => []
def cellsV (ρ : Env) (j : Int) : List CK → List NE → List Value
  | .int k :: s, c :: l => .int k (c.aden ρ j) :: cellsV ρ j s l
  | .float k :: s, c :: l => .float k (c.aden ρ j).toNat :: cellsV ρ j s l
  | .complex k :: s, c :: d :: l => .complex k (c.aden ρ j).toNat (d.aden ρ j).toNat :: cellsV ρ j s l
  | .bool :: s, c :: l => .bool (!(c.aden ρ j == 0)) :: cellsV ρ j s l
  | .str :: s, c :: l => .string (deS (c.aden ρ j)) :: cellsV ρ j s l
  | _, _ => []
theorem cellsE_den (ρ : Env) (σ : Sg) (j : NE) : ∀ (s : List CK) (l : List NE), denL ρ σ (cellsE j s l) = cellsV ρ (j.den ρ) s l
  | [], l => by simp [cellsE, cellsV, denL]
  | .int k :: s, [] => by simp [cellsE, cellsV, denL]
  | .float k :: s, [] => by simp [cellsE, cellsV, denL]
  | .complex k :: s, [] => by simp [cellsE, cellsV, denL]
  | .complex k :: s, [_] => by simp [cellsE, cellsV, denL]
  | .bool :: s, [] => by simp [cellsE, cellsV, denL]
  | .str :: s, [] => by simp [cellsE, cellsV, denL]
  | .int k :: s, c :: l => by simp [cellsE, cellsV, denL, SV.den, mkSel_den, cellsE_den ρ σ j s l]
  | .float k :: s, c :: l => by simp [cellsE, cellsV, denL, SV.den, mkSel_den, cellsE_den ρ σ j s l]
  | .complex k :: s, c :: d :: l => by simp [cellsE, cellsV, denL, SV.den, mkSel_den, cellsE_den ρ σ j s l]
  | .bool :: s, c :: l => by simp [cellsE, cellsV, denL, SV.den, mkSel_den, mkNot_den, mkIcmp_den, COp.int, NE.den, cellsE_den ρ σ j s l]
  | .str :: s, c :: l => by simp [cellsE, cellsV, denL, SV.den, mkSel_den, cellsE_den ρ σ j s l]
def fitC : List CK → List NE → Bool
  | [], [] => true
  | .complex _ :: s, _ :: _ :: l => fitC s l
  | .int _ :: s, _ :: l => fitC s l
  | .float _ :: s, _ :: l => fitC s l
  | .bool :: s, _ :: l => fitC s l
  | .str :: s, _ :: l => fitC s l
  | _, _ => false
theorem fitC_len (ρ : Env) (j : Int) : ∀ (s : List CK) (l : List NE), fitC s l = true → (cellsV ρ j s l).length = s.length
  | [], l, _ => by simp [cellsV]
  | .int k :: s, c :: l, h => by simp [cellsV]; exact fitC_len ρ j s l h
  | .float k :: s, c :: l, h => by simp [cellsV]; exact fitC_len ρ j s l h
  | .complex k :: s, c :: d :: l, h => by simp [cellsV]; exact fitC_len ρ j s l h
  | .bool :: s, c :: l, h => by simp [cellsV]; exact fitC_len ρ j s l h
  | .str :: s, c :: l, h => by simp [cellsV]; exact fitC_len ρ j s l h
  | .int k :: s, [], h => by cases h
  | .float k :: s, [], h => by cases h
  | .complex k :: s, [], h => by cases h
  | .complex k :: s, [_], h => by cases h
  | .bool :: s, [], h => by cases h
  | .str :: s, [], h => by cases h
theorem cellsE_inside (n : Nat) (j : NE) : ∀ (s : List CK) (l : List NE), insideL n (cellsE j s l) = true
  | [], l => by simp [cellsE, insideL]
  | .int k :: s, [] => by simp [cellsE, insideL]
  | .float k :: s, [] => by simp [cellsE, insideL]
  | .complex k :: s, [] => by simp [cellsE, insideL]
  | .complex k :: s, [_] => by simp [cellsE, insideL]
  | .bool :: s, [] => by simp [cellsE, insideL]
  | .str :: s, [] => by simp [cellsE, insideL]
  | .int k :: s, c :: l => by simp [cellsE, insideL, SV.inside, cellsE_inside n j s l]
  | .float k :: s, c :: l => by simp [cellsE, insideL, SV.inside, cellsE_inside n j s l]
  | .complex k :: s, c :: d :: l => by simp [cellsE, insideL, SV.inside, cellsE_inside n j s l]
  | .bool :: s, c :: l => by simp [cellsE, insideL, SV.inside, cellsE_inside n j s l]
  | .str :: s, c :: l => by simp [cellsE, insideL, SV.inside, cellsE_inside n j s l]

/-- A row: how many elements, of which cells, and what these hold. -/
structure Abs where
  n : NE
  sh : List CK
  cols : List NE
  deriving DecidableEq, Inhabited
/-- A block of memory: its cells, the type of its elements, whether it may not be written, whether more cells lie behind; or a row. A row that may not be written may lie where others do. -/
structure Blk where
  cells : List SV
  elem : TypeId
  ro : Bool
  opn : Bool
  abs : Option Abs := none
  deriving Inhabited
abbrev Hp := List (Option Blk)
def Blk.shd (x : Blk) : Bool := x.abs.isSome && x.ro
/-- The record of a range over a function: its cells are the state and the slots at the loop's entry, its type of elements is the place of the loop. -/
def Blk.isRec (x : Blk) : Bool := x.abs.isNone && (x.ro && x.opn)
theorem Blk.rec_none {x : Blk} (h : x.isRec = true) : x.abs = none := by
  simp only [Blk.isRec, Bool.and_eq_true, Option.isNone_iff_eq_none] at h; exact h.1
theorem Blk.rec_shd {x : Blk} (h : x.isRec = true) : x.shd = false := by
  simp [Blk.shd, Blk.rec_none h]

/-- Parts of code, by the numbers of the children from the part up to the whole. -/
def child : Code → Nat → Option Code
  | .seq x _, 0 => some x
  | .seq _ y, 1 => some y
  | .cond _ x _, 0 => some x
  | .cond _ _ y, 1 => some y
  | .block _ x, 0 => some x
  | .loop x, 0 => some x
  | .scope x, 0 => some x
  | .rangeFunc _ _ x _, 0 => some x
  | .rangeFunc _ _ _ y, 1 => some y
  | _, _ => none
def sub (c : Code) : List Nat → Option Code
  | [] => some c
  | i :: p => (sub c p).bind (child · i)
def codeAt (P : Program) (f : FuncId) (p : List Nat) : Option Code := ((P.funcs[f]?).bind (·.body)).bind (sub · p)
theorem codeAt_child {P : Program} {f : FuncId} {p : List Nat} {c x : Code} {i : Nat} (h : codeAt P f p = some c) (hx : child c i = some x) : codeAt P f (i :: p) = some x := by
  unfold codeAt at h ⊢
  obtain ⟨b, hb, hs⟩ := Option.bind_eq_some_iff.1 h
  rw [hb]
  simp only [Option.bind_some, sub, hs, hx]
/-- A path of children 0 and 1 by a number, and back. -/
def pathC : List Nat → Nat
  | [] => 1
  | i :: p => 2 * pathC p + i
def pathOf : Nat → Nat → List Nat
  | 0, _ => []
  | k + 1, n => if Nat.ble n 1 then [] else (n % 2) :: pathOf k (n / 2)
def recF (e : Nat) : FuncId := e % 4294967296
def recP (e : Nat) : List Nat := pathOf 400 (e / 4294967296)
/-- How far a range over a function has come: ready, in a round, done with a jump. -/
def stIs (st : Nat) (r : Loop) : Prop := match st with
  | 0 => r.state = .ready ∧ r.pending = none
  | 1 => r.state = .busy
  | 2 => r.state = .done ∧ r.pending = some .ret
  | k + 3 => r.state = .done ∧ r.pending = some (.exit k)

/-- Where a block lies. -/
structure Pl where
  blk : Nat
  cap : Nat
  off : Nat
  gh : Option (Option Addr)
def Sg.pl (σ : Sg) (b : Nat) : Pl := ⟨σ.blk b, σ.cap b, σ.off b, σ.gh b⟩

structure RowAt (P : Program) (ρ : Env) (x : Blk) (A : Abs) (p : Pl) (w : World) : Prop where
  nn : 0 ≤ A.n.den ρ
  fit : fitC A.sh A.cols = true
  gh : ∀ a, p.gh = some a → A.n.den ρ = 0
  at_ : p.gh = none → ∃ (c : Array Value) (t : TypeId) (fr : Nat × Nat), w.heap[p.blk]? = some (.cells c t fr) ∧
    (∀ j i : Nat, j < (A.n.den ρ).toNat → i < A.sh.length → c[p.off + j * A.sh.length + i]? = (cellsV ρ j A.sh A.cols)[i]?) ∧
    (x.ro = false → t = x.elem ∧ fr = (0, 0) ∧ p.off = 0 ∧ c.size = p.cap * P.cellsOf x.elem ∧ A.sh.length = P.cellsOf x.elem ∧ (A.n.den ρ).toNat ≤ p.cap)
  cp : p.gh = none → (A.n.den ρ).toNat ≤ p.cap
structure ConAt (P : Program) (ρ : Env) (σ : Sg) (x : Blk) (p : Pl) (w : World) : Prop where
  gh : p.gh = none
  off : p.off = 0
  at_ : ∃ (rest : List Value) (fr : Nat × Nat), w.heap[p.blk]? = some (.cells (denL ρ σ x.cells ++ rest).toArray x.elem fr) ∧
    (x.opn = false → x.ro = false → rest = []) ∧ (x.opn = true → x.cells.length + rest.length = p.cap * P.cellsOf x.elem) ∧ (x.ro = false → fr = (0, 0))
/-- What the record of a range over a function tells. -/
structure RecAt (P : Program) (ρ : Env) (σ : Sg) (x : Blk) (p : Pl) (w : World) : Prop where
  gh : p.gh = none
  at_ : ∃ (r : Loop) (g : Operand) (st : Nat) (v0 : SV) (T : List SV), w.heap[p.blk]? = some (.loop r) ∧ codeAt P (recF x.elem) (recP x.elem) = some (.rangeFunc g r.params r.assign r.body) ∧
    x.cells = v0 :: T ∧ v0.isAny = false ∧ v0.den ρ σ = .int .i64 st ∧ stIs st r ∧ r.tmps.size = T.length ∧ ∀ (t : Nat) v, T[t]? = some v → v.isAny = false → r.tmps.getD t undef = v.den ρ σ
/-- What a block tells of the world. -/
structure BlkAt (P : Program) (ρ : Env) (σ : Sg) (x : Blk) (p : Pl) (w : World) : Prop where
  con : x.abs = none → x.isRec = false → ConAt P ρ σ x p w
  row : ∀ A, x.abs = some A → RowAt P ρ x A p w
  rcd : x.isRec = true → RecAt P ρ σ x p w
theorem BlkAt.ofCon {P : Program} {ρ : Env} {σ : Sg} {x : Blk} {p : Pl} {w : World} (ha : x.abs = none) (hr : x.isRec = false) (h : ConAt P ρ σ x p w) : BlkAt P ρ σ x p w :=
  ⟨fun _ _ => h, (fun A hA => by rw [ha] at hA; cases hA), (fun hr' => by rw [hr] at hr'; cases hr')⟩
theorem Blk.row_rec {x : Blk} {A : Abs} (ha : x.abs = some A) : x.isRec = false := by simp [Blk.isRec, ha]
theorem BlkAt.ofRow {P : Program} {ρ : Env} {σ : Sg} {x : Blk} {p : Pl} {w : World} {A : Abs} (ha : x.abs = some A) (h : RowAt P ρ x A p w) : BlkAt P ρ σ x p w :=
  ⟨(fun h' => by rw [ha] at h'; cases h'), (fun B hB => by rw [ha] at hB; cases hB; exact h), (fun hr' => by rw [Blk.row_rec ha] at hr'; cases hr')⟩
theorem BlkAt.ofRows {P : Program} {ρ : Env} {σ : Sg} {x : Blk} {p : Pl} {w : World} (hn : x.isRec = false) (ha : x.abs.isSome = true) (h : ∀ A, x.abs = some A → RowAt P ρ x A p w) : BlkAt P ρ σ x p w :=
  ⟨(fun h' => by rw [h'] at ha; cases ha), h, (fun hr' => by rw [hn] at hr'; cases hr')⟩
theorem den_of_list {ρ : Env} {σ σ' : Sg} {l : List SV} (h : denL ρ σ' l = denL ρ σ l) {v : SV} (hv : v ∈ l) : v.den ρ σ' = v.den ρ σ := by
  rw [denL_map, denL_map] at h
  exact List.map_inj_left.1 h v hv
theorem BlkAt.to {P : Program} {ρ : Env} {σ σ' : Sg} {x : Blk} {p : Pl} {w w' : World} (h : BlkAt P ρ σ x p w) (hd : denL ρ σ' x.cells = denL ρ σ x.cells) (hw : p.gh = none → w'.heap[p.blk]? = w.heap[p.blk]?) : BlkAt P ρ σ' x p w' := by
  refine ⟨fun he hn => ?_, fun A hA => ?_, fun hrc => ?_⟩
  · obtain ⟨g, o, rest, fr, h1, h2⟩ := h.con he hn
    exact ⟨g, o, rest, fr, by rw [hd, hw g]; exact h1, h2⟩
  · obtain ⟨h1, h2, h3, h4, h5⟩ := h.row A hA
    exact ⟨h1, h2, h3, (fun g => by rw [hw g]; exact h4 g), h5⟩
  · obtain ⟨g, r, gg, st, v0, T, h1, h2, h3, h4, h5, h6, h7, h8⟩ := h.rcd hrc
    rw [h3] at hd
    have e0 : v0.den ρ σ' = v0.den ρ σ := den_of_list hd (by simp)
    exact ⟨g, r, gg, st, v0, T, by rw [hw g]; exact h1, h2, h3, h4, e0.trans h5, h6, h7, fun t v hv hn => (h8 t v hv hn).trans (den_of_list hd (List.mem_cons_of_mem _ (List.mem_of_getElem? hv))).symm⟩
theorem BlkAt.lt {P : Program} {ρ : Env} {σ : Sg} {x : Blk} {p : Pl} {w : World} (h : BlkAt P ρ σ x p w) (hg : p.gh = none) : p.blk < w.heap.size := by
  cases he : x.abs with
  | none =>
    cases hn : x.isRec with
    | false =>
      obtain ⟨_, _, _, _, hr, _⟩ := h.con he hn
      exact (Array.getElem?_eq_some_iff.1 hr).1
    | true =>
      obtain ⟨_, _, _, _, _, _, hr, _⟩ := h.rcd hn
      exact (Array.getElem?_eq_some_iff.1 hr).1
  | some A =>
    obtain ⟨_, _, _, hr, _⟩ := (h.row A he).at_ hg
    exact (Array.getElem?_eq_some_iff.1 hr).1

/-- The world holds the known blocks. -/
structure HRel (P : Program) (ρ : Env) (σ : Sg) (H : Hp) (w : World) : Prop where
  blk : ∀ b x, H[b]? = some (some x) → insideL H.length x.cells = true ∧ BlkAt P ρ σ x (σ.pl b) w
  inj : ∀ b b' x x', H[b]? = some (some x) → H[b']? = some (some x') → (x.shd = false ∨ x'.shd = false) → σ.gh b = none → σ.gh b' = none → σ.blk b = σ.blk b' → b = b'

/-- Blocks of deferred calls stay as they are, records of ranges over functions stay such ones. -/
structure Kd (w w' : World) : Prop where
  d : ∀ (k : Nat) (ds : List Deferred), w.heap[k]? = some (Obj.deferred (some ds)) → w'.heap[k]? = some (Obj.deferred (some ds))
  l : ∀ (k : Nat) (r : Loop), w.heap[k]? = some (Obj.loop r) → ∃ r', w'.heap[k]? = some (Obj.loop r')
theorem Kd.refl (w : World) : Kd w w := ⟨fun _ _ h => h, fun _ r h => ⟨r, h⟩⟩
theorem Kd.trans {w w1 w2 : World} (h : Kd w w1) (h' : Kd w1 w2) : Kd w w2 := ⟨fun k ds hk => h'.d k ds (h.d k ds hk), fun k r hk => let ⟨r1, h1⟩ := h.l k r hk; h'.l k r1 h1⟩
theorem Kd.same {w w' : World} (h : ∀ k, k < w.heap.size → w'.heap[k]? = w.heap[k]?) : Kd w w' :=
  ⟨fun k ds hk => (h k (Array.getElem?_eq_some_iff.1 hk).1).trans hk, fun k r hk => ⟨r, (h k (Array.getElem?_eq_some_iff.1 hk).1).trans hk⟩⟩
/-- What a step leaves: W are the blocks that were written. -/
structure Post (P : Program) (ρ : Env) (σ σ' : Sg) (H H' : Hp) (W : List Nat) (w w' : World) : Prop where
  ext : σ.agree H.length σ'
  len : H.length ≤ H'.length
  rel : HRel P ρ σ' H' w'
  new : ∀ b, H.length ≤ b → b < H'.length → σ'.gh b = none → w.heap.size ≤ σ'.blk b ∨ ∃ c ∈ W, c < H.length ∧ σ.gh c = none ∧ σ.blk c = σ'.blk b
  os : w'.os = w.os
  tape : w'.tape = w.tape
  out : w'.output = w.output
  size : w.heap.size ≤ w'.heap.size
  kd : Kd w w'
  frame : ∀ k, k < w.heap.size → (∀ b ∈ W, b < H.length → σ.gh b = none → σ.blk b ≠ k) → w'.heap[k]? = w.heap[k]?
  kept : ∀ b, b < H.length → b ∉ W → H'[b]? = H[b]?

theorem Sg.agree.pl {n : Nat} {σ σ' : Sg} (h : σ.agree n σ') {b : Nat} (hb : b < n) : σ'.pl b = σ.pl b := by
  obtain ⟨h1, h2, h3, h4⟩ := h b hb
  unfold Sg.pl; rw [h1, h2, h3, h4]
theorem Sg.agree.gh {n : Nat} {σ σ' : Sg} (h : σ.agree n σ') {b : Nat} (hb : b < n) : σ'.gh b = σ.gh b := (h b hb).2.2.2
theorem Post.refl {P : Program} {ρ : Env} {σ : Sg} {H : Hp} {w : World} (h : HRel P ρ σ H w) : Post P ρ σ σ H H [] w w :=
  ⟨fun _ _ => ⟨rfl, rfl, rfl, rfl⟩, Nat.le_refl _, h, fun b h1 h2 => by omega, rfl, rfl, rfl, Nat.le_refl _, Kd.refl _, fun _ _ _ => rfl, fun _ _ _ => rfl⟩
theorem Sg.agree.trans {n m : Nat} {σ σ1 σ2 : Sg} (h : σ.agree n σ1) (hm : n ≤ m) (h' : σ1.agree m σ2) : σ.agree n σ2 :=
  fun b hb => ⟨(h' b (by omega)).1.trans (h b hb).1, (h' b (by omega)).2.1.trans (h b hb).2.1, (h' b (by omega)).2.2.1.trans (h b hb).2.2.1, (h' b (by omega)).2.2.2.trans (h b hb).2.2.2⟩
theorem Post.trans {P : Program} {ρ1 ρ : Env} {σ σ1 σ2 : Sg} {H H1 H2 : Hp} {W W2 : List Nat} {w w1 w2 : World} (h : Post P ρ1 σ σ1 H H1 W w w1) (h' : Post P ρ σ1 σ2 H1 H2 W2 w1 w2) :
    Post P ρ σ σ2 H H2 (W ++ W2) w w2 := by
  refine ⟨h.ext.trans h.len h'.ext, Nat.le_trans h.len h'.len, h'.rel, fun b h1 h2 hg => ?_, h'.os.trans h.os, h'.tape.trans h.tape, h'.out.trans h.out, Nat.le_trans h.size h'.size, h.kd.trans h'.kd, fun k hk hW => ?_, fun b hb hW => ?_⟩
  · rcases Nat.lt_or_ge b H1.length with h3 | h3
    · have hg1 : σ1.gh b = none := by rw [← h'.ext.gh h3]; exact hg
      rcases h.new b h1 h3 hg1 with hn | ⟨c, hc, hcl, hcg, he⟩
      · exact .inl (by rw [(h'.ext b h3).1]; exact hn)
      · exact .inr ⟨c, List.mem_append_left _ hc, hcl, hcg, by rw [(h'.ext b h3).1]; exact he⟩
    · rcases h'.new b h3 h2 hg with hn | ⟨c, hc, hcl, hcg, he⟩
      · exact .inl (Nat.le_trans h.size hn)
      · rcases Nat.lt_or_ge c H.length with h4 | h4
        · exact .inr ⟨c, List.mem_append_right _ hc, h4, by rw [← h.ext.gh h4]; exact hcg, by rw [← (h.ext c h4).1]; exact he⟩
        · rcases h.new c h4 hcl hcg with hn | ⟨d, hd, hdl, hdg, hde⟩
          · exact .inl (by rw [← he]; exact hn)
          · exact .inr ⟨d, List.mem_append_left _ hd, hdl, hdg, hde.trans he⟩
  · rw [h'.frame k (Nat.lt_of_lt_of_le hk h.size) ?_, h.frame k hk ?_]
    · exact fun b hb hl => hW b (List.mem_append_left _ hb) hl
    · intro b hb hl hg
      rcases Nat.lt_or_ge b H.length with h3 | h3
      · rw [(h.ext b h3).1]; exact hW b (List.mem_append_right _ hb) h3 (by rw [← h.ext.gh h3]; exact hg)
      · rcases h.new b h3 hl hg with hn | ⟨c, hc, hcl, hcg, he⟩
        · omega
        · rw [← he]; exact hW c (List.mem_append_left _ hc) hcl hcg
  · simp only [List.mem_append, not_or] at hW
    rw [h'.kept b (Nat.lt_of_lt_of_le hb h.len) hW.2, h.kept b hb hW.1]
theorem Post.drew {P : Program} {ρ : Env} {σ σ' : Sg} {H H' : Hp} {W : List Nat} {w w' : World} (h : Post P ρ σ σ' H H' W w.drew w') : Post P ρ σ σ' H H' W w w' :=
  ⟨h.ext, h.len, h.rel, h.new, h.os, h.tape, h.out, h.size, ⟨h.kd.d, h.kd.l⟩, h.frame, h.kept⟩
theorem HRel.drew {P : Program} {ρ : Env} {σ : Sg} {H : Hp} {w : World} (h : HRel P ρ σ H w) : HRel P ρ σ H w.drew := ⟨fun b x hb => ⟨(h.blk b x hb).1, (h.blk b x hb).2.to rfl fun _ => rfl⟩, h.inj⟩

theorem HRel.lt {P : Program} {ρ : Env} {σ : Sg} {H : Hp} {w : World} (h : HRel P ρ σ H w) {b : Nat} {x : Blk} (hb : H[b]? = some (some x)) (hg : σ.gh b = none) : σ.blk b < w.heap.size := (h.blk b x hb).2.lt hg

theorem BlkAt.cells {P : Program} {ρ : Env} {σ : Sg} {x : Blk} {p : Pl} {w : World} (h : BlkAt P ρ σ x p w) (hn : x.isRec = false) (hg : p.gh = none) : ∃ c t fr, w.heap[p.blk]? = some (.cells c t fr) := by
  cases he : x.abs with
  | none =>
    obtain ⟨_, _, _, _, hr, _⟩ := h.con he hn
    exact ⟨_, _, _, hr⟩
  | some A =>
    obtain ⟨_, _, _, hr, _⟩ := (h.row A he).at_ hg
    exact ⟨_, _, _, hr⟩
theorem HRel.notDef {P : Program} {ρ : Env} {σ : Sg} {H : Hp} {w : World} (h : HRel P ρ σ H w) {b : Nat} {x : Blk} (hb : H[b]? = some (some x)) (hg : σ.gh b = none) {ds : Option (List Deferred)} (hd : w.heap[σ.blk b]? = some (Obj.deferred ds)) : False := by
  cases hn : x.isRec with
  | false =>
    obtain ⟨c, t, fr, hc⟩ := (h.blk b x hb).2.cells hn hg
    rw [show (σ.pl b).blk = σ.blk b from rfl, hd] at hc
    cases hc
  | true =>
    obtain ⟨_, r, _, _, _, _, hr, _⟩ := (h.blk b x hb).2.rcd hn
    rw [show (σ.pl b).blk = σ.blk b from rfl, hd] at hr
    cases hr
theorem HRel.notLoop {P : Program} {ρ : Env} {σ : Sg} {H : Hp} {w : World} (h : HRel P ρ σ H w) {b : Nat} {x : Blk} (hb : H[b]? = some (some x)) (hg : σ.gh b = none) {r : Loop} (hd : w.heap[σ.blk b]? = some (Obj.loop r)) : x.isRec = true := by
  cases hn : x.isRec with
  | false =>
    obtain ⟨c, t, fr, hc⟩ := (h.blk b x hb).2.cells hn hg
    rw [show (σ.pl b).blk = σ.blk b from rfl, hd] at hc
    cases hc
  | true => rfl
/-- The blocks of the world but for one stay. -/
theorem HRel.kd {P : Program} {ρ : Env} {σ σ' : Sg} {H : Hp} {w w' : World} (h : HRel P ρ σ H w) {b : Nat} {x y : Blk} (hb : H[b]? = some (some x)) (hxy : x.isRec = true → y.isRec = true) {p : Pl} (hp : p.blk = σ.blk b) (hat : BlkAt P ρ σ' y p w')
    (fr : ∀ k, k < w.heap.size → (σ.gh b = none → σ.blk b ≠ k) → w'.heap[k]? = w.heap[k]?) : Kd w w' := by
  refine ⟨fun k ds hk => (fr k (Array.getElem?_eq_some_iff.1 hk).1 fun hg e => h.notDef hb hg (e ▸ hk)).trans hk, fun k r hk => ?_⟩
  by_cases e : σ.gh b = none ∧ σ.blk b = k
  · obtain ⟨hg, rfl⟩ := e
    obtain ⟨_, r', _, _, _, _, hr, _⟩ := hat.rcd (hxy (h.notLoop hb hg hk))
    exact ⟨r', by rw [← hp]; exact hr⟩
  · exact ⟨r, (fr k (Array.getElem?_eq_some_iff.1 hk).1 fun hg e' => e ⟨hg, e'⟩).trans hk⟩

/-- A new place. -/
def Sg.snocP (σ : Sg) (n : Nat) (p : Pl) : Sg := ⟨fun b => if b = n then p.blk else σ.blk b, fun b => if b = n then p.cap else σ.cap b, fun b => if b = n then p.off else σ.off b, fun b => if b = n then p.gh else σ.gh b⟩
theorem Sg.snocP_agree (σ : Sg) (n : Nat) (p : Pl) : σ.agree n (σ.snocP n p) := fun b hb =>
  ⟨if_neg (by omega), if_neg (by omega), if_neg (by omega), if_neg (by omega)⟩
theorem Sg.snocP_pl (σ : Sg) (n : Nat) (p : Pl) : (σ.snocP n p).pl n = p := by simp [Sg.pl, Sg.snocP]
def Sg.snoc (σ : Sg) (n k c : Nat) : Sg := σ.snocP n ⟨k, c, 0, none⟩
theorem Sg.snoc_agree (σ : Sg) (n k c : Nat) : σ.agree n (σ.snoc n k c) := σ.snocP_agree n _
theorem Sg.snoc_blk (σ : Sg) (n k c : Nat) : (σ.snoc n k c).blk n = k := if_pos rfl
theorem Sg.snoc_cap (σ : Sg) (n k c : Nat) : (σ.snoc n k c).cap n = c := if_pos rfl
theorem Sg.snoc_off (σ : Sg) (n k c : Nat) : (σ.snoc n k c).off n = 0 := if_pos rfl
theorem Sg.snoc_gh (σ : Sg) (n k c : Nat) : (σ.snoc n k c).gh n = none := if_pos rfl

theorem getElem?_snoc {α : Type} (l : List α) (x : α) (b : Nat) : (l ++ [x])[b]? = if b = l.length then some x else l[b]? := by
  rw [List.getElem?_append]
  split
  · rw [if_neg (by omega)]
  · split
    · rename_i h; subst h; simp
    · rw [List.getElem?_eq_none (by simp; omega), List.getElem?_eq_none (by omega)]

/-- A block more. -/
theorem Post.add {P : Program} {ρ : Env} {σ : Sg} {H : Hp} {w w' : World} (h : HRel P ρ σ H w) (x : Blk) (p : Pl) (hc : insideL H.length x.cells = true) (hp : p.gh = none → w.heap.size ≤ p.blk)
    (hx : BlkAt P ρ (σ.snocP H.length p) x p w') (os : w'.os = w.os) (tape : w'.tape = w.tape) (out : w'.output = w.output) (size : w.heap.size ≤ w'.heap.size) (fr : ∀ k, k < w.heap.size → w'.heap[k]? = w.heap[k]?) :
    Post P ρ σ (σ.snocP H.length p) H (H ++ [some x]) [] w w' := by
  have ha := σ.snocP_agree H.length p
  have hlt : ∀ {b : Nat} {y : Blk}, H[b]? = some (some y) → b < H.length := fun hb => (List.getElem?_eq_some_iff.1 hb).1
  refine ⟨ha, by simp, ⟨fun b y hb => ?_, fun b b' y y' hb hb' hs hg hg' he => ?_⟩, fun b h1 h2 hg => .inl ?_, os, tape, out, size, Kd.same fr, fun k hk _ => fr k hk, fun b hb _ => ?_⟩
  · rw [getElem?_snoc] at hb
    split at hb
    · rename_i e
      simp only [Option.some.injEq] at hb; subst hb; subst e
      exact ⟨insideL_mono (by simp) _ hc, by rw [Sg.snocP_pl]; exact hx⟩
    · have hl := hlt hb
      obtain ⟨hi, hat⟩ := h.blk b y hb
      refine ⟨insideL_mono (by simp) _ hi, ?_⟩
      rw [ha.pl hl]
      exact hat.to (denL_agree ha _ hi) fun g => fr _ (h.lt hb g)
  · rw [getElem?_snoc] at hb hb'
    split at hb <;> split at hb' <;> rename_i e1 e2
    · omega
    · have hl := hlt hb'
      rw [ha.gh hl] at hg'
      rw [(ha b' hl).1] at he
      have := h.lt hb' hg'
      subst e1
      simp only [Sg.snocP, if_true] at he hg
      have := hp hg; omega
    · have hl := hlt hb
      rw [ha.gh hl] at hg
      rw [(ha b hl).1] at he
      have := h.lt hb hg
      subst e2
      simp only [Sg.snocP, if_true] at he hg'
      have := hp hg'; omega
    · have hl := hlt hb; have hl' := hlt hb'
      rw [ha.gh hl] at hg; rw [ha.gh hl'] at hg'
      rw [(ha b hl).1, (ha b' hl').1] at he
      exact h.inj b b' y y' hb hb' hs hg hg' he
  · simp at h2
    have e : b = H.length := by omega
    subst e
    simp only [Sg.snocP, if_true] at hg ⊢
    exact hp hg
  · rw [getElem?_snoc, if_neg (by omega)]

theorem Post.allocO {P : Program} {ρ : Env} {σ : Sg} {H : Hp} {w : World} (h : HRel P ρ σ H w) (cs : List SV) (rest : List Value) (t : TypeId) (o : Bool) (cap : Nat) (hc : insideL H.length cs = true)
    (ho : o = false → rest = []) (ho' : o = true → cs.length + rest.length = cap * P.cellsOf t) :
    Post P ρ σ (σ.snoc H.length w.heap.size cap) H (H ++ [some ⟨cs, t, false, o, none⟩]) [] w { w with heap := w.heap.push (.cells (denL ρ σ cs ++ rest).toArray t (0, 0)) } := by
  refine Post.add h ⟨cs, t, false, o, none⟩ ⟨w.heap.size, cap, 0, none⟩ hc (fun _ => Nat.le_refl _) (BlkAt.ofCon rfl rfl ⟨rfl, rfl, rest, (0, 0), ?_, (fun h _ => ho h), ho', fun _ => rfl⟩) rfl rfl rfl (by simp) fun k hk => ?_
  · rw [denL_agree (σ.snocP_agree H.length _) _ hc]; simp
  · simp only [Array.getElem?_push]; rw [if_neg (by omega)]

theorem Post.alloc {P : Program} {ρ : Env} {σ : Sg} {H : Hp} {w : World} (h : HRel P ρ σ H w) (cs : List SV) (t : TypeId) (hc : insideL H.length cs = true) :
    Post P ρ σ (σ.snoc H.length w.heap.size 0) H (H ++ [some ⟨cs, t, false, false, none⟩]) [] w { w with heap := w.heap.push (.cells (denL ρ σ cs).toArray t (0, 0)) } := by
  have := Post.allocO h cs [] t false 0 hc (fun _ => rfl) (fun h => by cases h)
  simpa using this

/-- A row with some of its cells replaced. -/
def setL {α : Type} (l : List α) (n : Nat) (v : List α) : List α := l.take n ++ v ++ l.drop (n + v.length)
theorem setL_length {α : Type} (l : List α) (n : Nat) (v : List α) (h : n + v.length ≤ l.length) : (setL l n v).length = l.length := by
  simp [setL]; omega
theorem setL_nil {α : Type} (l : List α) (n : Nat) : setL l n [] = l := by simp [setL]
theorem setL_cons {α : Type} (l : List α) (n : Nat) (x : α) (v : List α) (h : n < l.length) : setL (l.set n x) (n + 1) v = setL l n (x :: v) := by
  simp only [setL]
  rw [List.set_eq_take_append_cons_drop, if_pos h]
  have e : (l.take n).length = n := by simp; omega
  rw [List.take_append, List.drop_append, e]
  simp [List.take_of_length_le, List.drop_eq_nil_of_le, show n + 1 - n = 1 by omega, show n + 1 + v.length - n = v.length + 1 by omega, Nat.add_assoc, Nat.add_comm 1]
  rw [List.take_take, Nat.min_eq_right (by omega)]
  simp [show n + (v.length + 1) = n + (v.length + 1) by rfl]
  omega
theorem setL_mem {α : Type} {l v : List α} {n : Nat} {x : α} (h : x ∈ setL l n v) : x ∈ l ∨ x ∈ v := by
  simp only [setL, List.mem_append] at h
  rcases h with (h | h) | h
  · exact .inl (List.mem_of_mem_take h)
  · exact .inr h
  · exact .inl (List.mem_of_mem_drop h)
theorem setL_append {α : Type} (l r v : List α) (n : Nat) (h : n + v.length ≤ l.length) : setL (l ++ r) n v = setL l n v ++ r := by
  simp only [setL]
  rw [List.take_append_of_le_length (by omega), List.drop_append_of_le_length h]
  simp
theorem setL_map {α β : Type} (f : α → β) (l v : List α) (n : Nat) : (setL l n v).map f = setL (l.map f) n (v.map f) := by
  simp [setL, List.map_take, List.map_drop]

/-- One block of the world is another one now. -/
structure Upd (w w' : World) (k : Nat) (o : Obj) : Prop where
  at_ : w'.heap[k]? = some o
  other : ∀ j, j ≠ k → w'.heap[j]? = w.heap[j]?
  size : w'.heap.size = w.heap.size
  os : w'.os = w.os
  tape : w'.tape = w.tape
  out : w'.output = w.output

theorem addr_add (k off i : Nat) : (⟨k, off, none⟩ : Addr).add i = ⟨k, off + i, none⟩ := by
  unfold Addr.add; split
  · subst_vars; rfl
  · rfl

/-- A value of one cell, of the model. -/
def cellV : Value → Bool
  | .agg _ => false
  | .tuple _ => false
  | _ => true
theorem SV.isCell_den {ρ : Env} {σ : Sg} {v : SV} (h : v.isCell = true) : cellV (v.den ρ σ) = true := by
  cases v with
  | asl b n => simp only [SV.den]; cases σ.gh b <;> rfl
  | rsl b st lo hi => simp only [SV.den]; cases σ.gh b <;> rfl
  | _ => simp_all [SV.den, cellV, SV.isCell]

theorem run_store_cell {P : Program} {w : World} {k off : Nat} {L : List Value} {t : TypeId} {v : Value} (hv : cellV v = true) (hk : w.heap[k]? = some (.cells L.toArray t (0, 0))) (ho : off < L.length) :
    (store ⟨k, off, none⟩ v).run P w = .ok () (w.setCell ⟨k, off, none⟩ v) ∧ Upd w (w.setCell ⟨k, off, none⟩ v) k (.cells (L.set off v).toArray t (0, 0)) := by
  have hc : w.cell? ⟨k, off, none⟩ = some L[off] := by simp [World.cell?, hk, ho]
  have hf : w.frozen? ⟨k, off, none⟩ = false := by simp [World.frozen?, hk]
  refine ⟨?_, ?_, ?_, by simp [World.setCell], rfl, rfl, rfl⟩
  · unfold Go.store
    cases v <;> simp_all [Sem.run, cellV]
  · simp [World.setCell, Array.getElem?_modify, hk]
  · intro j hj
    simp only [World.setCell, Array.getElem?_modify]
    rw [if_neg (by simpa using Ne.symm hj)]

theorem run_storeCells {P : Program} {t : TypeId} {k off : Nat} : ∀ (vs : List Value) (i : Nat) (L : List Value) (w : World), (∀ v ∈ vs, cellV v = true) → w.heap[k]? = some (.cells L.toArray t (0, 0)) → off + i + vs.length ≤ L.length →
    ∃ w', (storeCells ⟨k, off, none⟩ vs i).run P w = .ok () w' ∧ Upd w w' k (.cells (setL L (off + i) vs).toArray t (0, 0))
  | [], i, L, w, _, hk, _ => ⟨w, rfl, by rw [setL_nil]; exact ⟨hk, fun _ _ => rfl, rfl, rfl, rfl, rfl⟩⟩
  | v :: vs, i, L, w, hv, hk, hl => by
    simp only [List.length_cons] at hl
    obtain ⟨hr, hu⟩ := run_store_cell (P := P) (hv v (by simp)) hk (show off + i < L.length by omega)
    obtain ⟨w', hr', hu'⟩ := run_storeCells (P := P) (t := t) (k := k) (off := off) vs (i + 1) (L.set (off + i) v) _ (fun x hx => hv x (by simp [hx])) hu.at_ (by simp; omega)
    refine ⟨w', ?_, ?_, fun j hj => (hu'.other j hj).trans (hu.other j hj), hu'.size.trans hu.size, hu'.os.trans hu.os, hu'.tape.trans hu.tape, hu'.out.trans hu.out⟩
    · simp only [storeCells, Sem.run_bind, addr_add, hr, Result.andThen_ok, hr']
    · rw [hu'.at_, ← Nat.add_assoc, setL_cons _ _ _ _ (by omega)]

/-- A block of one's own becomes another one, at its place. -/
theorem Post.upd {P : Program} {ρ : Env} {σ : Sg} {H : Hp} {w w' : World} (h : HRel P ρ σ H w) {b : Nat} {x y : Blk} (hb : H[b]? = some (some x)) (hxy : x.isRec = true → y.isRec = true) (hx : x.shd = false) (hy : y.shd = false) (hc : insideL H.length y.cells = true)
    (hat : BlkAt P ρ σ y (σ.pl b) w') (os : w'.os = w.os) (tape : w'.tape = w.tape) (out : w'.output = w.output) (size : w'.heap.size = w.heap.size) (fr : ∀ k, k < w.heap.size → (σ.gh b = none → σ.blk b ≠ k) → w'.heap[k]? = w.heap[k]?) :
    Post P ρ σ σ H (H.set b (some y)) [b] w w' := by
  have hlt : b < H.length := (List.getElem?_eq_some_iff.1 hb).1
  have hset : ∀ (c : Nat) (z : Blk), (H.set b (some y))[c]? = some (some z) → (c = b ∧ z = y) ∨ (c ≠ b ∧ H[c]? = some (some z)) := by
    intro c z hc
    by_cases e : c = b
    · subst e
      rw [List.getElem?_set_self hlt] at hc
      simp only [Option.some.injEq] at hc
      exact .inl ⟨rfl, hc.symm⟩
    · rw [List.getElem?_set_ne (Ne.symm e)] at hc
      exact .inr ⟨e, hc⟩
  refine ⟨fun _ _ => ⟨rfl, rfl, rfl, rfl⟩, by simp, ⟨fun c z hcz => ?_, fun c c' z z' hcz hcz' hs hg hg' he => ?_⟩, fun c h1 h2 => by simp at h2; omega, os, tape, out, by omega, h.kd hb hxy rfl hat fr, fun k hk hW => fr k hk fun hg => hW b (by simp) hlt hg, fun c hcl hW => ?_⟩
  · rcases hset c z hcz with ⟨rfl, rfl⟩ | ⟨hne, hz⟩
    · exact ⟨by rw [List.length_set]; exact hc, hat⟩
    · obtain ⟨hi, hat'⟩ := h.blk c z hz
      refine ⟨by rw [List.length_set]; exact hi, hat'.to rfl fun hg => fr _ (h.lt hz hg) fun hgb e => ?_⟩
      exact hne (h.inj b c x z hb hz (.inl hx) hgb hg e).symm
  · rcases hset c z hcz with ⟨rfl, rfl⟩ | ⟨hne, hz⟩ <;> rcases hset c' z' hcz' with ⟨rfl, rfl⟩ | ⟨hne', hz'⟩
    · rfl
    · exact h.inj c c' x z' hb hz' (.inl hx) hg hg' he
    · exact h.inj c c' z x hz hb (.inr hx) hg hg' he
    · exact h.inj c c' z z' hz hz' hs hg hg' he
  · simp only [List.mem_singleton] at hW
    rw [List.getElem?_set_ne (Ne.symm hW)]
/-- A store into a block. -/
theorem Post.put {P : Program} {ρ : Env} {σ : Sg} {H : Hp} {w w' : World} (h : HRel P ρ σ H w) {b : Nat} {x : Blk} (hb : H[b]? = some (some x)) (ha : x.abs = none) (hn : x.isRec = false) {off : Nat} {vs : List SV} (hv : insideL H.length vs = true)
    (ho : off + vs.length ≤ x.cells.length) {rest : List Value} (hr : w.heap[σ.blk b]? = some (.cells (denL ρ σ x.cells ++ rest).toArray x.elem (0, 0)))
    (hu : Upd w w' (σ.blk b) (.cells (setL (denL ρ σ x.cells ++ rest) off (denL ρ σ vs)).toArray x.elem (0, 0))) :
    Post P ρ σ σ H (H.set b (some { x with cells := setL x.cells off vs })) [b] w w' := by
  obtain ⟨hi, hat⟩ := h.blk b x hb
  obtain ⟨hg, hof, rest', fr', hr', h1, h2, h3⟩ := hat.con ha hn
  have er : rest' = rest := by
    simp only [Sg.pl] at hr'
    rw [hr] at hr'
    simp only [Option.some.injEq, Obj.cells.injEq, true_and] at hr'
    have := congrArg Array.toList hr'.1
    simpa using this.symm
  subst er
  refine Post.upd h hb (fun h => absurd h (by simp [hn])) (by simp [Blk.shd, ha]) (by simp [Blk.shd, ha]) (insideL_of fun v hv' => (setL_mem hv').elim (insideL_mem hi) (insideL_mem hv)) (BlkAt.ofCon ha hn ⟨hg, hof, rest', (0, 0), ?_, h1, ?_, fun _ => rfl⟩) hu.os hu.tape hu.out hu.size fun k hk hne => ?_
  · simp only [Sg.pl]
    rw [hu.at_]
    simp only [denL_map, setL_map]
    rw [setL_append _ _ _ _ (by simp; omega)]
  · intro ho'
    simp only at ho' ⊢
    rw [setL_length _ _ _ (by omega)]
    exact h2 ho'
  · exact hu.other k (fun e => hne hg e.symm)
/-- A block of one's own becomes another one, at its place and by another name; another capacity may be told. -/
theorem Post.moveP {P : Program} {ρ : Env} {σ : Sg} {H : Hp} {w w' : World} (h : HRel P ρ σ H w) {b : Nat} {x y : Blk} (hb : H[b]? = some (some x)) {p : Pl} (hpb : p.blk = σ.blk b) (hpg : p.gh = σ.gh b) (hxy : x.isRec = true → y.isRec = true) (hx : x.shd = false) (hc : insideL H.length y.cells = true)
    (hat : BlkAt P ρ (σ.snocP H.length p) y p w') (os : w'.os = w.os) (tape : w'.tape = w.tape) (out : w'.output = w.output) (size : w'.heap.size = w.heap.size) (fr : ∀ k, k < w.heap.size → (σ.gh b = none → σ.blk b ≠ k) → w'.heap[k]? = w.heap[k]?) :
    Post P ρ σ (σ.snocP H.length p) H (H.set b none ++ [some y]) [b] w w' := by
  have hlt : b < H.length := (List.getElem?_eq_some_iff.1 hb).1
  have ha := σ.snocP_agree H.length p
  have hold : ∀ (c : Nat) (z : Blk), c ≠ H.length → (H.set b none ++ [some y])[c]? = some (some z) → c ≠ b ∧ H[c]? = some (some z) := by
    intro c z hne hc'
    rw [getElem?_snoc, if_neg (by simpa using hne)] at hc'
    by_cases e : c = b
    · subst e; rw [List.getElem?_set_self hlt] at hc'; cases hc'
    · rw [List.getElem?_set_ne (Ne.symm e)] at hc'; exact ⟨e, hc'⟩
  have hnew : ∀ (z : Blk), (H.set b none ++ [some y])[H.length]? = some (some z) → z = y := by
    intro z hc'
    rw [getElem?_snoc, if_pos (by simp)] at hc'
    simpa using hc'.symm
  have hpl : (σ.snocP H.length p).gh H.length = σ.gh b ∧ (σ.snocP H.length p).blk H.length = σ.blk b := by simp [Sg.snocP, hpb, hpg]
  refine ⟨ha, by simp, ⟨fun c z hcz => ?_, fun c c' z z' hcz hcz' hs hg hg' he => ?_⟩, fun c h1 h2 hg => .inr ⟨b, by simp, hlt, ?_, ?_⟩, os, tape, out, by omega, h.kd hb hxy hpb hat fr, fun k hk hW => fr k hk fun hg => hW b (by simp) hlt hg, fun c hcl hW => ?_⟩
  · by_cases e : c = H.length
    · subst e
      obtain rfl := hnew z hcz
      exact ⟨insideL_mono (by simp) _ hc, by rw [Sg.snocP_pl]; exact hat⟩
    · obtain ⟨hne, hz⟩ := hold c z e hcz
      obtain ⟨hi, hat'⟩ := h.blk c z hz
      have hlc : c < H.length := (List.getElem?_eq_some_iff.1 hz).1
      refine ⟨insideL_mono (by simp) _ hi, ?_⟩
      rw [ha.pl hlc]
      exact hat'.to (denL_agree ha _ hi) fun hg => fr _ (h.lt hz hg) fun hgb e => hne (h.inj b c x z hb hz (.inl hx) hgb hg e).symm
  · have key : ∀ (c' : Nat) (z' : Blk), c' ≠ H.length → (H.set b none ++ [some y])[c']? = some (some z') → σ.gh b = none → (σ.snocP H.length p).gh c' = none → σ.blk b = (σ.snocP H.length p).blk c' → False := by
      intro c' z' e' hc' hg hg' he
      obtain ⟨hne, hz⟩ := hold c' z' e' hc'
      have hlc : c' < H.length := (List.getElem?_eq_some_iff.1 hz).1
      rw [ha.gh hlc] at hg'
      rw [(ha c' hlc).1] at he
      exact hne (h.inj b c' x z' hb hz (.inl hx) hg hg' he).symm
    by_cases e : c = H.length <;> by_cases e' : c' = H.length
    · rw [e, e']
    · subst e
      rw [hpl.1] at hg; rw [hpl.2] at he
      exact absurd (key c' z' e' hcz' hg hg' he) id
    · subst e'
      rw [hpl.1] at hg'; rw [hpl.2] at he
      exact absurd (key c z e hcz hg' hg he.symm) id
    · obtain ⟨_, h1⟩ := hold c z e hcz
      obtain ⟨_, h2⟩ := hold c' z' e' hcz'
      have l1 := (List.getElem?_eq_some_iff.1 h1).1
      have l2 := (List.getElem?_eq_some_iff.1 h2).1
      rw [ha.gh l1] at hg; rw [ha.gh l2] at hg'
      rw [(ha c l1).1, (ha c' l2).1] at he
      exact h.inj c c' z z' h1 h2 hs hg hg' he
  · simp at h2
    have e : c = H.length := by omega
    subst e
    rw [hpl.1] at hg; exact hg
  · simp at h2
    have e : c = H.length := by omega
    subst e
    exact hpl.2.symm
  · simp only [List.mem_singleton] at hW
    rw [getElem?_snoc, if_neg (by simp; omega), List.getElem?_set_ne (Ne.symm hW)]
/-- A block of one's own becomes another one, at its place and by another name. -/
theorem Post.move {P : Program} {ρ : Env} {σ : Sg} {H : Hp} {w w' : World} (h : HRel P ρ σ H w) {b : Nat} {x y : Blk} (hb : H[b]? = some (some x)) (hxy : x.isRec = true → y.isRec = true) (hx : x.shd = false) (hc : insideL H.length y.cells = true)
    (hat : BlkAt P ρ (σ.snocP H.length (σ.pl b)) y (σ.pl b) w') (os : w'.os = w.os) (tape : w'.tape = w.tape) (out : w'.output = w.output) (size : w'.heap.size = w.heap.size) (fr : ∀ k, k < w.heap.size → (σ.gh b = none → σ.blk b ≠ k) → w'.heap[k]? = w.heap[k]?) :
    Post P ρ σ (σ.snocP H.length (σ.pl b)) H (H.set b none ++ [some y]) [b] w w' :=
  Post.moveP h hb rfl rfl hxy hx hc hat os tape out size fr
/-- What an append leaves, made in place: the old block's name is not used any more. -/
theorem Post.onto {P : Program} {ρ : Env} {σ : Sg} {H : Hp} {w w' : World} (h : HRel P ρ σ H w) {b : Nat} {x : Blk} (hb : H[b]? = some (some x)) (ha : x.abs = none) (hn : x.isRec = false) {cs : List SV} (hc : insideL H.length cs = true) {rest : List Value}
    (hu : Upd w w' (σ.blk b) (.cells (denL ρ σ (x.cells ++ cs) ++ rest).toArray x.elem (0, 0))) (ho : (x.cells ++ cs).length + rest.length = σ.cap b * P.cellsOf x.elem) :
    Post P ρ σ (σ.snoc H.length (σ.blk b) (σ.cap b)) H (H.set b none ++ [some ⟨x.cells ++ cs, x.elem, false, true, none⟩]) [b] w w' := by
  obtain ⟨hi, hat⟩ := h.blk b x hb
  obtain ⟨hg, ho0, _⟩ := hat.con ha hn
  have hin' : insideL H.length (x.cells ++ cs) = true := insideL_of fun v hv => (List.mem_append.1 hv).elim (insideL_mem hi) (insideL_mem hc)
  have e : σ.snoc H.length (σ.blk b) (σ.cap b) = σ.snocP H.length (σ.pl b) := by
    unfold Sg.snoc Sg.pl
    simp only [Sg.pl] at hg ho0
    rw [ho0, hg]
  rw [e]
  refine Post.move h hb (fun h => absurd h (by simp [hn])) (by simp [Blk.shd, ha]) hin' (BlkAt.ofCon rfl rfl ⟨hg, ho0, rest, (0, 0), ?_, (fun h => by cases h), (fun _ => ho), fun _ => rfl⟩) hu.os hu.tape hu.out hu.size fun k hk hne => hu.other k (fun e => hne hg e.symm)
  rw [denL_agree (σ.snocP_agree H.length _) _ hin']
  exact hu.at_

/-- A block's name is given up. -/
theorem Post.drop {P : Program} {ρ : Env} {σ : Sg} {H : Hp} {w : World} (h : HRel P ρ σ H w) {b : Nat} {x : Blk} (hb : H[b]? = some (some x)) : Post P ρ σ σ H (H.set b none) [b] w w := by
  have hlt : b < H.length := (List.getElem?_eq_some_iff.1 hb).1
  have hold : ∀ (c : Nat) (y : Blk), (H.set b none)[c]? = some (some y) → H[c]? = some (some y) := by
    intro c y hc'
    by_cases e : c = b
    · subst e; rw [List.getElem?_set_self hlt] at hc'; cases hc'
    · rw [List.getElem?_set_ne (Ne.symm e)] at hc'; exact hc'
  refine ⟨fun _ _ => ⟨rfl, rfl, rfl, rfl⟩, by simp, ⟨fun c y hc => ?_, fun c c' y y' hc hc' => h.inj c c' y y' (hold _ _ hc) (hold _ _ hc')⟩, fun c h1 h2 => by simp at h2; omega, rfl, rfl, rfl, Nat.le_refl _, Kd.refl _, fun _ _ _ => rfl, fun c hc hW => ?_⟩
  · have := h.blk c y (hold c y hc)
    rwa [List.length_set]
  · simp only [List.mem_singleton] at hW
    rw [List.getElem?_set_ne (Ne.symm hW)]
end Go.Proofs.Ytgdhpgjfebinhaa.Ev
