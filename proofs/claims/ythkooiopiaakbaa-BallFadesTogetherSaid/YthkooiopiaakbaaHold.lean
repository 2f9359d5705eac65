/- What a walk keeps of the world while calls make memory of their own: the old memory, and the cells of its own blocks. -/
import Derived.Test.YthkooiopiaakbaaFloat
namespace Go.Proofs.Ythkooiopiaakbaa
open Go.RowKit Go.Lib

/-- These blocks hold these cells. -/
def Cells (w : World) : List (Nat × Array Value) → Prop
  | [] => True
  | p :: l => At w p.1 p.2 ∧ Cells w l

/-- Below B all is as in w0; the blocks of the list hold their cells. -/
structure Hold (B : Nat) (w0 : World) (l : List (Nat × Array Value)) (w : World) : Prop where
  below : Below B w0 w
  size : B ≤ w.heap.size
  cells : Cells w l

theorem Cells.below {w w' : World} (hb : Below w.heap.size w w') : ∀ {l : List (Nat × Array Value)}, Cells w l → Cells w' l
  | [], _ => trivial
  | _ :: _, h => ⟨h.1.below hb, Cells.below hb h.2⟩

theorem Hold.mem {B : Nat} {w0 w w' : World} {l : List (Nat × Array Value)} (h : Hold B w0 l w) (hb : Below w.heap.size w w') : Hold B w0 l w' :=
  ⟨h.below.trans (hb.mono h.size), Nat.le_trans h.size hb.size, h.cells.below hb⟩
theorem Hold.drew {B : Nat} {w0 w : World} {l : List (Nat × Array Value)} (h : Hold B w0 l w) : Hold B w0 l w.drew :=
  h.mem (Below.refl _ _).drew
theorem Hold.drewN {B : Nat} {w0 w : World} {l : List (Nat × Array Value)} (h : Hold B w0 l w) (n : Nat) : Hold B w0 l (w.drewN n) :=
  h.mem (below_drewN (Below.refl _ _) n)
theorem Hold.alloc {B : Nat} {w0 w : World} {l : List (Nat × Array Value)} (h : Hold B w0 l w) (o : Obj) : Hold B w0 l (w.alloc o) :=
  h.mem ((Below.refl _ _).alloc (Nat.le_refl _) o)
theorem Hold.new {B : Nat} {w0 w : World} {l : List (Nat × Array Value)} (h : Hold B w0 l w) (c : Array Value) (t : TypeId) {n : Nat} (hn : n = w.heap.size) : Hold B w0 ((n, c) :: l) (w.alloc (.cells c t)) :=
  ⟨(h.alloc _).below, (h.alloc _).size, At.new' w c t hn, (h.alloc _).cells⟩
theorem Hold.start (w : World) : Hold w.heap.size w [] w := ⟨Below.refl _ _, Nat.le_refl _, trivial⟩
theorem Hold.cons {B : Nat} {w0 w : World} {l : List (Nat × Array Value)} (h : Hold B w0 l w) {b : Nat} {c : Array Value} (ha : At w b c) : Hold B w0 ((b, c) :: l) w := ⟨h.below, h.size, ha, h.cells⟩
theorem Hold.tail {B : Nat} {w0 w : World} {p : Nat × Array Value} {l : List (Nat × Array Value)} (h : Hold B w0 (p :: l) w) : Hold B w0 l w := ⟨h.below, h.size, h.cells.2⟩
theorem Hold.head {B : Nat} {w0 w : World} {b : Nat} {c : Array Value} {l : List (Nat × Array Value)} (h : Hold B w0 ((b, c) :: l) w) : At w b c := h.cells.1
theorem Cells.of_mem {w : World} : ∀ {l : List (Nat × Array Value)}, Cells w l → ∀ p ∈ l, At w p.1 p.2
  | p :: l, h, q, hq => by
    rcases List.mem_cons.1 hq with rfl | hq
    · exact h.1
    · exact Cells.of_mem h.2 q hq
theorem Hold.at {B : Nat} {w0 w : World} {l : List (Nat × Array Value)} (h : Hold B w0 l w) (b : Nat) (c : Array Value) (hm : (b, c) ∈ l) : At w b c := Cells.of_mem h.cells (b, c) hm

theorem At.set {w : World} {b : Nat} {c : Array Value} (h : At w b c) (o : Nat) (v : Value) : At (w.setCell ⟨b, o, none⟩ v) b (c.setIfInBounds o v) := by
  have hlt := h.lt
  obtain ⟨t, h⟩ := h
  have h' : w.heap[b] = .cells c t (0, 0) := by simpa [Array.getElem?_eq_getElem hlt] using h
  refine ⟨t, ?_⟩
  show (w.heap.modify b _)[b]? = _
  rw [Array.getElem?_eq_getElem (by simpa using hlt), Array.getElem_modify_self, h']
  rfl
theorem Cells.set {w : World} {a : Addr} {v : Value} : ∀ {l : List (Nat × Array Value)}, Cells w l → (∀ p ∈ l, p.1 ≠ a.block) → Cells (w.setCell a v) l
  | [], _, _ => trivial
  | p :: l, h, hne => ⟨h.1.other (hne p (by simp)) v, Cells.set h.2 fun q hq => hne q (by simp [hq])⟩
theorem Hold.set {B : Nat} {w0 w : World} {b : Nat} {c : Array Value} {l : List (Nat × Array Value)} (h : Hold B w0 ((b, c) :: l) w) (hb : B ≤ b) (hne : ∀ p ∈ l, p.1 ≠ b) (o : Nat) (v : Value) :
    Hold B w0 ((b, c.setIfInBounds o v) :: l) (w.setCell ⟨b, o, none⟩ v) :=
  ⟨h.below.setCell hb v, Nat.le_trans h.size (by simp [World.setCell]), h.cells.1.set o v, h.cells.2.set hne⟩
theorem Hold.set1 {B : Nat} {w0 w : World} {b : Nat} {c0 v0 : Value} {l : List (Nat × Array Value)} (h : Hold B w0 ((b, #[c0]) :: l) w) (hb : B ≤ b) (hne : ∀ p ∈ l, p.1 ≠ b) :
    Hold B w0 ((b, #[v0]) :: l) (w.setCell ⟨b, 0, none⟩ v0) := h.set hb hne 0 v0
theorem Hold.set2 {B : Nat} {w0 w : World} {b : Nat} {c0 c1 v0 v1 : Value} {l : List (Nat × Array Value)} (h : Hold B w0 ((b, #[c0, c1]) :: l) w) (hb : B ≤ b) (hne : ∀ p ∈ l, p.1 ≠ b) :
    Hold B w0 ((b, #[v0, v1]) :: l) ((w.setCell ⟨b, 0, none⟩ v0).setCell ⟨b, 1, none⟩ v1) := (h.set hb hne 0 v0).set hb hne 1 v1
theorem Hold.set3 {B : Nat} {w0 w : World} {b : Nat} {c0 c1 c2 v0 v1 v2 : Value} {l : List (Nat × Array Value)} (h : Hold B w0 ((b, #[c0, c1, c2]) :: l) w) (hb : B ≤ b) (hne : ∀ p ∈ l, p.1 ≠ b) :
    Hold B w0 ((b, #[v0, v1, v2]) :: l) (((w.setCell ⟨b, 0, none⟩ v0).setCell ⟨b, 1, none⟩ v1).setCell ⟨b, 2, none⟩ v2) := ((h.set hb hne 0 v0).set hb hne 1 v1).set hb hne 2 v2
theorem Hold.sub {B : Nat} {w0 w : World} {l : List (Nat × Array Value)} (h : Hold B w0 l w) {l' : List (Nat × Array Value)} (hs : ∀ p ∈ l', p ∈ l) : Hold B w0 l' w := by
  refine ⟨h.below, h.size, ?_⟩
  induction l' with
  | nil => trivial
  | cons p l' ih => exact ⟨h.cells.of_mem p (hs p (by simp)), ih fun q hq => hs q (by simp [hq])⟩

theorem Hold.lasting (B : Nat) (w0 : World) (l : List (Nat × Array Value)) : Lasting (Hold B w0 l) := fun _ _ h hb => h.mem hb

/-- A world of the class, that comes of another one by calls that only make memory of their own. -/
structure HoldR (S : World → Prop) (r w : World) : Prop where
  s : S w
  b : Below r.heap.size r w

section
variable {P : Program} {ops : Array Oper} {S : World → Prop} {Q : Act → Prop}

theorem wpCalm_nil {a : Act} (h : Q a) : wpCalm P ops S Q [] a := h

theorem calm_skip {o : Oper} {l : List Oper} {a : Act} (hw : Region.wanted o (yielded ops a.tmps) = false) (h : wpCalm P ops S Q l (a.put o.dst undef)) : wpCalm P ops S Q (o :: l) a :=
  ⟨undef, .inr ⟨hw, rfl⟩, h⟩

theorem calm_step (hne : ∃ w, S w) {o : Oper} {l : List Oper} {a : Act} {d : Tmp} (hw : Region.wanted o (yielded ops a.tmps) = true) (hd : o.dst = some d) (hs : d < a.tmps.size)
    (h : ∃ A, (∀ r, S r → ∀ K : Act → Prop, K A → o.quiet P a (HoldR S r) K) ∧ wpCalm P ops S Q l A) : wpCalm P ops S Q (o :: l) a := by
  obtain ⟨A, h1, h2⟩ := h
  have key : ∀ r, S r → ∃ v, calmAt P o a r v ∧ a.put o.dst v = A := by
    intro r hr
    obtain ⟨v, hv, hA⟩ := h1 r hr (fun a' => a' = A) rfl
    refine ⟨v, ?_, hA⟩
    have hv := hv r ⟨hr, Below.refl _ _⟩
    unfold Oper.quietAt at hv
    unfold calmAt
    generalize (execOp a.eval o).run P r = x at *
    cases x with
    | halt y w' => cases hv
    | ok n w' =>
      cases n with
      | value u => exact hv
      | skip => exact hv
      | enter f args => exact ⟨hv.1, hv.2.mono fun e w'' ⟨he, hb⟩ => ⟨he, hb.b⟩⟩
      | _ => exact hv.elim
  have one : ∀ v u, a.put o.dst v = a.put o.dst u → v = u := by
    intro v u e
    rw [hd] at e
    simp only [Act.put, Act.mk.injEq, and_true] at e
    have e := congrArg (fun t => t[d]?) e
    simpa [hs] using e
  obtain ⟨r, hr⟩ := hne
  obtain ⟨v, _, hA⟩ := key r hr
  refine ⟨v, .inl ⟨hw, fun w hw' => ?_⟩, by rw [hA]; exact h2⟩
  obtain ⟨u, hu, hA'⟩ := key w hw'
  obtain rfl : u = v := one u v (hA'.trans hA.symm)
  exact hu
end

theorem cm_mem {P : Program} {f : FuncId} {args : Array Value} {B : Nat} {w0 r w : World} {l : List (Nat × Array Value)} {v : Value} (hw : HoldR (Hold B w0 l) r w) (h : Calls P f args w (Mem v w)) :
    Calls P f args w fun e w' => e = .returned v ∧ HoldR (Hold B w0 l) r w' := h.mono fun _ _ ⟨he, hb⟩ => ⟨he, hw.s.mem hb, hw.b.trans (hb.mono hw.b.size)⟩
theorem cm_same {P : Program} {f : FuncId} {args : Array Value} {B : Nat} {w0 r w : World} {l : List (Nat × Array Value)} {v : Value} (hw : HoldR (Hold B w0 l) r w) (h : Calls P f args w fun e w' => e = .returned v ∧ w = w') :
    Calls P f args w fun e w' => e = .returned v ∧ HoldR (Hold B w0 l) r w' := h.mono fun _ _ ⟨he, hb⟩ => ⟨he, hb ▸ hw⟩
theorem cm_quiet {P : Program} {f : FuncId} {args : Array Value} {B : Nat} {w0 r w : World} {l : List (Nat × Array Value)} {v : Value} (hw : HoldR (Hold B w0 l) r w) (h : Calls P f args w (Quiet v w)) :
    Calls P f args w fun e w' => e = .returned v ∧ HoldR (Hold B w0 l) r w' := cm_mem hw (h.mono fun _ _ ⟨he, n, hb⟩ => ⟨he, hb ▸ below_drewN (Below.refl _ _) n⟩)
end Go.Proofs.Ythkooiopiaakbaa
