/- The symbolic machine's trees, with rows: all ways of a function in one theorem. -/
import Derived.Test.YtgdhpgjfebinhaaFvu
namespace Go.Proofs.Ytgdhpgjfebinhaa.Ev
set_option linter.unusedSimpArgs false
open Go Go.RowKit
set_option linter.unusedVariables false
set_option linter.unusedSectionVars false
variable {P : Program}
variable {ds : List Deferred}

/-- Numbers, truths and rows. -/
abbrev D3 := List Int × List Bool × List (Int → Int)
def D3.sz (d : D3) : Sz := ⟨d.1.length, d.2.1.length, d.2.2.length⟩
def Vs.plus (V : Vs) (d : D3) : Vs := V.add d.1 d.2.1 d.2.2
def X3.den (V : Vs) (x : X3) : D3 := (denN (envV V) x.ns, denB (envV V) x.bs, denA (envV V) x.rs)
theorem Vs.plus_sz (V : Vs) (d : D3) : (V.plus d).sz = V.sz.add d.sz := V.add_sz _ _ _
def Vs.first (V : Vs) (z : Sz) : Vs := ⟨V.L.take z.n, V.B.take z.m, V.A.take z.q⟩
theorem Vs.put_first (V : Vs) (z : Sz) (x : X3) : V.put z x = (V.first z).plus (x.den V) := rfl
theorem Vs.first_sz {V : Vs} {z : Sz} (h : z.le V.sz) : (V.first z).sz = z := by
  obtain ⟨h1, h2, h3⟩ := h
  simp only [Vs.sz] at h1 h2 h3
  simp [Vs.first, Vs.sz, Nat.min_eq_left h1, Nat.min_eq_left h2, Nat.min_eq_left h3]
theorem Vs.first_ext {V V' : Vs} (hE : Ext V V') {z : Sz} (h : z.le V.sz) : V'.first z = V.first z := by
  obtain ⟨xs, e1⟩ := hE.num
  obtain ⟨bs, e2⟩ := hE.tru
  obtain ⟨rs, e3⟩ := hE.row
  obtain ⟨h1, h2, h3⟩ := h
  simp only [Vs.sz] at h1 h2 h3
  unfold Vs.first
  rw [e1, e2, e3, List.take_append_of_le_length h1, List.take_append_of_le_length h2, List.take_append_of_le_length h3]
theorem Vs.first_self (V : Vs) : V.first V.sz = V := by simp [Vs.first, Vs.sz]
theorem Vs.first_plus (V : Vs) (d : D3) : (V.plus d).first V.sz = V := by
  have := Vs.first_ext (Ext.add V d.1 d.2.1 d.2.2) (Sz.le_refl V.sz)
  rw [Vs.first_self] at this
  exact this

structure LoopN where
  g : FuncId
  p : List Nat
  T0 : List SV
  H0 : Hp
  acts : List Absb
  T : List SV
  H : Hp
  W : List Nat
  z : Sz
  init : X3
  ren : List Nat
  deriving Inhabited
structure Ctx where
  bits : List (BE × Bool) := []
  calls : List ((FuncId × List SV) × SV) := []
  callsH : List CallE := []
  dom : Dom := {}
  loops : List LoopF := []
  cur : Option LoopN := none
def Ctx.facts (S : Facts) (c : Ctx) : Facts := { S with bits := c.bits, calls := c.calls, dom := c.dom, callsH := c.callsH }
structure Ctx.Holds (P : Program) (ρ : Env) (c : Ctx) : Prop where
  bits : ∀ p ∈ c.bits, p.1.den ρ = p.2
  calls : ∀ p ∈ c.calls, ∀ w, Calls P p.1.1 (denL ρ σ0 p.1.2).toArray w fun e w' => e = .returned (p.2.den ρ σ0) ∧ Below w.heap.size w w'
  callsH : ∀ e ∈ c.callsH, e.Ok P ρ
  dom : c.dom.Holds ρ
  loops : ∀ l ∈ c.loops, l.Ok P ρ
theorem Ctx.facts_ok {S : Facts} {c : Ctx} {ρ : Env} (hS : S.Holds P ρ) (h : c.Holds P ρ) : (c.facts S).Holds P ρ :=
  ⟨hS.eqs, h.bits, hS.fl, hS.f2i, h.calls, hS.sums, hS.exts, hS.extS, h.dom, h.callsH⟩
def belF (z : Sz) (l : LoopF) : Bool := belL z l.T && (belH z l.H && (belL z l.r.2.1 && belH z l.r.2.2.1))
def belE (z : Sz) (e : CallE) : Bool := belL z e.args && (belH z e.HM && (e.r.bel z && belH z e.Hn))
structure Ctx.Bel (z : Sz) (c : Ctx) : Prop where
  bits : ∀ p ∈ c.bits, p.1.bel z = true
  calls : ∀ p ∈ c.calls, belL z p.1.2 = true ∧ p.2.bel z = true
  callsH : ∀ e ∈ c.callsH, belE z e = true
  ivs : ∀ p ∈ c.dom.ivs, p.1 < z.n
  whs : ∀ p ∈ c.dom.whs, p.1 < z.n ∧ p.2.1.bel z = true
  aivs : ∀ p ∈ c.dom.aivs, p.1 < z.q
  awhs : ∀ p ∈ c.dom.awhs, p.1 < z.q ∧ p.2.1.bel z = true
  loops : ∀ l ∈ c.loops, belF z l = true
section
variable {V V' : Vs} (hE : Ext V V')
include hE
theorem Post.rel_to {ρ ρ' : Env} {σ σ' : Sg} {H H' : Hp} {W : List Nat} {w w' : World} (h : Post P ρ σ σ' H H' W w w') (hr : HRel P ρ' σ' H' w') : Post P ρ' σ σ' H H' W w w' :=
  ⟨h.ext, h.len, hr, h.new, h.os, h.tape, h.out, h.size, h.kd, h.frame, h.kept⟩
theorem LoopF.Ok.ext {l : LoopF} (hb : belF V.sz l = true) (h : l.Ok P (envV V)) : l.Ok P (envV V') := by
  simp only [belF, Bool.and_eq_true] at hb
  obtain ⟨h1, h2, h3, h4⟩ := hb
  intro x hx ro m B ds σ a w Q hT hr hM hQ
  exact h x hx ro m B ds σ a w Q ((hE.trel h1).1 hT) ((hE.hrel h2).1 hr) hM fun ds' σ' a' w' hp hT' hM' => hQ ds' σ' a' w' (Post.rel_to hE hp ((hE.hrel h4).2 hp.rel)) ((hE.trel h3).2 hT') hM'
theorem belH_append {z : Sz} : ∀ {H K : Hp}, belH z H = true → belH z K = true → belH z (H ++ K) = true
  | [], K, _, h => h
  | x :: H, K, h, h' => by
    simp only [belH, Bool.and_eq_true] at h
    simp only [List.cons_append, belH, Bool.and_eq_true]
    exact ⟨h.1, belH_append h.2 h'⟩
theorem CallE.Ok.ext {e : CallE} (hb : belE V.sz e = true) (h : e.Ok P (envV V)) : e.Ok P (envV V') := by
  simp only [belE, Bool.and_eq_true] at hb
  obtain ⟨h1, h2, h3, h4⟩ := hb
  intro σ w hr
  rw [denL_ext hE σ _ h1]
  refine Calls.mono (h σ w ((hE.hrel h2).1 hr)) fun x w' ⟨σ', hp, he⟩ => ⟨σ', Post.rel_to hE hp ((hE.hrel (belH_append hE h2 h4)).2 hp.rel), ?_⟩
  rw [SV.ext hE σ' _ h3]; exact he
end
theorem Ctx.Holds.ext {c : Ctx} {V V' : Vs} (h : c.Holds P (envV V)) (hE : Ext V V') (hb : c.Bel V.sz) : c.Holds P (envV V') := by
  refine ⟨fun p hp => ?_, fun p hp w => ?_, fun e he => (h.callsH e he).ext hE (hb.callsH e he), ⟨fun p hp => ?_, fun p hp => ?_, fun p hp x => ?_, fun p hp => ?_⟩, fun l hl => (h.loops l hl).ext hE (hb.loops l hl)⟩
  · rw [BE.ext hE _ (hb.bits p hp)]; exact h.bits p hp
  · rw [denL_ext hE _ _ (hb.calls p hp).1, SV.ext hE _ _ (hb.calls p hp).2]; exact h.calls p hp w
  · rw [hE.n (hb.ivs p hp)]; exact h.dom.ivs p hp
  · rw [hE.n (hb.whs p hp).1, NE.ext hE _ (hb.whs p hp).2]; exact h.dom.whs p hp
  · rw [hE.a (hb.aivs p hp)]; exact h.dom.aivs p hp x
  · rw [hE.a (hb.awhs p hp).1, NE.exta hE _ (hb.awhs p hp).2]; exact h.dom.awhs p hp
theorem belF_mono {z z' : Sz} (hz : z.le z') (l : LoopF) (h : belF z l = true) : belF z' l = true := by
  simp only [belF, Bool.and_eq_true] at h ⊢
  exact ⟨belL_mono hz _ h.1, belH_mono hz _ h.2.1, belL_mono hz _ h.2.2.1, belH_mono hz _ h.2.2.2⟩
theorem belE_mono {z z' : Sz} (hz : z.le z') (l : CallE) (h : belE z l = true) : belE z' l = true := by
  simp only [belE, Bool.and_eq_true] at h ⊢
  exact ⟨belL_mono hz _ h.1, belH_mono hz _ h.2.1, SV.bel_mono hz _ h.2.2.1, belH_mono hz _ h.2.2.2⟩
theorem Ctx.Bel.mono {c : Ctx} {z z' : Sz} (h : c.Bel z) (hz : z.le z') : c.Bel z' :=
  ⟨fun p hp => BE.bel_mono hz _ (h.bits p hp), fun p hp => ⟨belL_mono hz _ (h.calls p hp).1, SV.bel_mono hz _ (h.calls p hp).2⟩, fun e he => belE_mono hz e (h.callsH e he), fun p hp => Nat.lt_of_lt_of_le (h.ivs p hp) hz.1, fun p hp => ⟨Nat.lt_of_lt_of_le (h.whs p hp).1 hz.1, NE.bel_mono hz _ (h.whs p hp).2⟩,
   fun p hp => Nat.lt_of_lt_of_le (h.aivs p hp) hz.2.2, fun p hp => ⟨Nat.lt_of_lt_of_le (h.awhs p hp).1 hz.2.2, NE.bel_mono hz _ (h.awhs p hp).2⟩, fun l hl => belF_mono hz l (h.loops l hl)⟩

/-- A range more. -/
def addRL (l : List (Nat × Int × Int)) (i : Nat) (lo hi : Int) : List (Nat × Int × Int) := (match findN l i with
  | some r => (i, max r.1 lo, min r.2 hi)
  | none => (i, lo, hi)) :: l
def Dom.addR (D : Dom) (i : Nat) (lo hi : Int) : Dom := { D with ivs := addRL D.ivs i lo hi }
def Dom.addA (D : Dom) (i : Nat) (lo hi : Int) : Dom := { D with aivs := addRL D.aivs i lo hi }
theorem Dom.addR_ok {D : Dom} {ρ : Env} (h : D.Holds ρ) {i : Nat} {lo hi : Int} (h1 : lo ≤ ρ.n i) (h2 : ρ.n i ≤ hi) : (D.addR i lo hi).Holds ρ := by
  refine ⟨fun p hp => ?_, h.whs, h.aivs, h.awhs⟩
  simp only [Dom.addR, addRL] at hp
  rcases List.mem_cons.1 hp with rfl | hp
  · split
    · rename_i r hr
      have := h.ivs _ (findN_mem hr)
      simp only at this ⊢; omega
    · exact ⟨h1, h2⟩
  · exact h.ivs p hp
theorem Dom.addA_ok {D : Dom} {ρ : Env} (h : D.Holds ρ) {i : Nat} {lo hi : Int} (h1 : ∀ x, lo ≤ ρ.a i x ∧ ρ.a i x ≤ hi) : (D.addA i lo hi).Holds ρ := by
  refine ⟨h.ivs, h.whs, fun p hp => ?_, h.awhs⟩
  simp only [Dom.addA, addRL] at hp
  rcases List.mem_cons.1 hp with rfl | hp
  · split
    · rename_i r hr
      intro x
      have := h.aivs _ (findN_mem hr) x
      have := h1 x
      simp only at *; omega
    · exact h1
  · exact h.aivs p hp
/-- What a truth tells of a variable's range. -/
def refine_ (D : Dom) (b : BE) (v : Bool) : Dom := match b, v with
  | .icmp .leq (.lit l) (.var i), true => (match findN D.ivs i with | some r => D.addR i l r.2 | none => D)
  | .icmp .leq (.lit l) (.var i), false => (match findN D.ivs i with | some r => D.addR i r.1 (l - 1) | none => D)
  | .icmp .leq (.var i) (.lit l), true => (match findN D.ivs i with | some r => D.addR i r.1 l | none => D)
  | .icmp .leq (.var i) (.lit l), false => (match findN D.ivs i with | some r => D.addR i (l + 1) r.2 | none => D)
  | .icmp .eql (.var i) (.lit l), true => D.addR i l l
  | .icmp .eql (.lit l) (.var i), true => D.addR i l l
  | .icmp .eql (.var i) (.lit l), false => (match findN D.ivs i with | some r => if r.1 = l then D.addR i (l + 1) r.2 else if r.2 = l then D.addR i r.1 (l - 1) else D | none => D)
  | _, _ => D
theorem refine_ok {D : Dom} {ρ : Env} (h : D.Holds ρ) {b : BE} {v : Bool} (hb : b.den ρ = v) : (refine_ D b v).Holds ρ := by
  unfold refine_
  split
  · have h1 := of_decide_eq_true hb
    simp only [NE.den] at h1
    split
    · rename_i r hr; exact Dom.addR_ok h h1 (h.ivs _ (findN_mem hr)).2
    · exact h
  · have h1 := of_decide_eq_false hb
    simp only [NE.den] at h1
    split
    · rename_i r hr; exact Dom.addR_ok h (h.ivs _ (findN_mem hr)).1 (by omega)
    · exact h
  · have h1 := of_decide_eq_true hb
    simp only [NE.den] at h1
    split
    · rename_i r hr; exact Dom.addR_ok h (h.ivs _ (findN_mem hr)).1 h1
    · exact h
  · have h1 := of_decide_eq_false hb
    simp only [NE.den] at h1
    split
    · rename_i r hr; exact Dom.addR_ok h (by omega) (h.ivs _ (findN_mem hr)).2
    · exact h
  · simp only [BE.den, COp.int, NE.den, beq_iff_eq] at hb
    exact Dom.addR_ok h (by omega) (by omega)
  · simp only [BE.den, COp.int, NE.den, beq_iff_eq] at hb
    exact Dom.addR_ok h (by omega) (by omega)
  · simp only [BE.den, COp.int, NE.den, beq_eq_false_iff_ne] at hb
    split
    · rename_i r hr
      have := h.ivs _ (findN_mem hr)
      simp only at this
      split
      · exact Dom.addR_ok h (by omega) this.2
      · split
        · exact Dom.addR_ok h this.1 (by omega)
        · exact h
    · exact h
  · exact h
theorem addRL_bel {l : List (Nat × Int × Int)} {i n : Nat} {lo up : Int} (h : ∀ p ∈ l, p.1 < n) (hi : i < n) : ∀ p ∈ addRL l i lo up, p.1 < n := by
  intro p hp
  simp only [addRL] at hp
  rcases List.mem_cons.1 hp with rfl | hp
  · split <;> exact hi
  · exact h p hp
theorem refine_rest (D : Dom) (b : BE) (v : Bool) : (refine_ D b v).whs = D.whs ∧ (refine_ D b v).aivs = D.aivs ∧ (refine_ D b v).awhs = D.awhs := by
  unfold refine_
  split <;> (try split) <;> (try split) <;> (try split) <;> exact ⟨rfl, rfl, rfl⟩
theorem refine_bel {D : Dom} {z : Sz} (h : ∀ p ∈ D.ivs, p.1 < z.n) {b : BE} {v : Bool} (hb : b.bel z = true) : ∀ p ∈ (refine_ D b v).ivs, p.1 < z.n := by
  unfold refine_
  split <;> (try (simp only [BE.bel, NE.bel, Bool.and_true, Bool.true_and] at hb; have hi := Nat.blt_eq.mp hb)) <;> (try split) <;> (try split) <;> (try split) <;> first | exact h | exact addRL_bel h hi
def Ctx.bit (c : Ctx) (b : BE) (v : Bool) : Ctx := { c with bits := (b, v) :: c.bits, dom := refine_ c.dom b v }
theorem Ctx.bit_ok {c : Ctx} {ρ : Env} (h : c.Holds P ρ) {b : BE} {v : Bool} (hb : b.den ρ = v) : (c.bit b v).Holds P ρ :=
  ⟨fun p hp => (List.mem_cons.1 hp).elim (fun e => by rw [e]; exact hb) (h.bits p), h.calls, h.callsH, refine_ok h.dom hb, h.loops⟩
theorem Ctx.bit_bel {c : Ctx} {z : Sz} (h : c.Bel z) {b : BE} {v : Bool} (hb : b.bel z = true) : (c.bit b v).Bel z := by
  obtain ⟨e1, e2, e3⟩ := refine_rest c.dom b v
  exact ⟨fun p hp => (List.mem_cons.1 hp).elim (fun e => by rw [e]; exact hb) (h.bits p), h.calls, h.callsH, refine_bel h.ivs hb, by simp only [Ctx.bit, e1]; exact h.whs, by simp only [Ctx.bit, e2]; exact h.aivs, by simp only [Ctx.bit, e3]; exact h.awhs, h.loops⟩

/-- All ways through a function, or through the body of a loop. -/
inductive Tr where
  | ret (x : X3) (ren : List Nat)
  | next (x : X3) (ren : List Nat)
  | out (i : Nat) (x : X3) (ren : List Nat)
  | ite (b : BE) (t e : Tr)
  | call (S : Sig) (x x' : X3) (c : CallE) (t : Tr)
  | pcall (f : FuncId) (args : List SV) (r : SV) (z : Sz) (t : Tr)
  | rng (i : Nat) (lo hi : Int) (t : Tr)
  | arng (i : Nat) (lo hi : Int) (t : Tr)
  | whole (i M : Nat) (t : Tr)
  | awhole (i M : Nat) (t : Tr)
  | fact (b : BE) (v : Bool) (t : Tr)
  | loop (l : LoopN) (body exits : Tr)
  | ex (r : Res) (z : Sz) (t rest : Tr)
  | told (l : LoopF) (t : Tr)
  | jn (l : LoopF) (bs : List BE) (t : Tr)
  | nil
  deriving Inhabited

def exN : Nat → (List Int → Prop) → Prop
  | 0, K => K []
  | k + 1, K => ∃ x : Int, exN k fun l => K (x :: l)
def exB : Nat → (List Bool → Prop) → Prop
  | 0, K => K []
  | k + 1, K => ∃ x : Bool, exB k fun l => K (x :: l)
def exA : Nat → (List (Int → Int) → Prop) → Prop
  | 0, K => K []
  | k + 1, K => ∃ x : Int → Int, exA k fun l => K (x :: l)
theorem exN_ok : ∀ {k : Nat} {K : List Int → Prop}, exN k K → ∃ l, l.length = k ∧ K l
  | 0, K, h => ⟨[], rfl, h⟩
  | k + 1, K, ⟨x, h⟩ => by
    obtain ⟨l, hl, h⟩ := exN_ok h
    exact ⟨x :: l, by simp [hl], h⟩
theorem exB_ok : ∀ {k : Nat} {K : List Bool → Prop}, exB k K → ∃ l, l.length = k ∧ K l
  | 0, K, h => ⟨[], rfl, h⟩
  | k + 1, K, ⟨x, h⟩ => by
    obtain ⟨l, hl, h⟩ := exB_ok h
    exact ⟨x :: l, by simp [hl], h⟩
theorem exA_ok : ∀ {k : Nat} {K : List (Int → Int) → Prop}, exA k K → ∃ l, l.length = k ∧ K l
  | 0, K, h => ⟨[], rfl, h⟩
  | k + 1, K, ⟨x, h⟩ => by
    obtain ⟨l, hl, h⟩ := exA_ok h
    exact ⟨x :: l, by simp [hl], h⟩
def exV (z : Sz) (K : D3 → Prop) : Prop := exN z.n fun xs => exB z.m fun bs => exA z.q fun rs => K (xs, bs, rs)
theorem exV_ok {z : Sz} {K : D3 → Prop} (h : exV z K) : ∃ d : D3, d.sz = z ∧ K d := by
  obtain ⟨xs, h1, h⟩ := exN_ok h
  obtain ⟨bs, h2, h⟩ := exB_ok h
  obtain ⟨rs, h3, h⟩ := exA_ok h
  exact ⟨(xs, bs, rs), by simp [D3.sz, h1, h2, h3], h⟩
def allN : Nat → (List Int → Prop) → Prop
  | 0, K => K []
  | k + 1, K => ∀ x : Int, allN k fun l => K (x :: l)
def allB : Nat → (List Bool → Prop) → Prop
  | 0, K => K []
  | k + 1, K => ∀ x : Bool, allB k fun l => K (x :: l)
def allA : Nat → (List (Int → Int) → Prop) → Prop
  | 0, K => K []
  | k + 1, K => ∀ x : Int → Int, allA k fun l => K (x :: l)
theorem allN_ok : ∀ {k : Nat} {K : List Int → Prop}, allN k K → ∀ l, l.length = k → K l
  | 0, K, h, [], _ => h
  | k + 1, K, h, x :: l, hl => allN_ok (h x) l (by simpa using hl)
  | 0, K, h, x :: l, hl => by simp at hl
  | k + 1, K, h, [], hl => by simp at hl
theorem allB_ok : ∀ {k : Nat} {K : List Bool → Prop}, allB k K → ∀ l, l.length = k → K l
  | 0, K, h, [], _ => h
  | k + 1, K, h, x :: l, hl => allB_ok (h x) l (by simpa using hl)
  | 0, K, h, x :: l, hl => by simp at hl
  | k + 1, K, h, [], hl => by simp at hl
theorem allA_ok : ∀ {k : Nat} {K : List (Int → Int) → Prop}, allA k K → ∀ l, l.length = k → K l
  | 0, K, h, [], _ => h
  | k + 1, K, h, x :: l, hl => allA_ok (h x) l (by simpa using hl)
  | 0, K, h, x :: l, hl => by simp at hl
  | k + 1, K, h, [], hl => by simp at hl
def allV (z : Sz) (K : D3 → Prop) : Prop := allN z.n fun xs => allB z.m fun bs => allA z.q fun rs => K (xs, bs, rs)
theorem allV_ok {z : Sz} {K : D3 → Prop} (h : allV z K) (d : D3) (hd : d.sz = z) : K d := by
  obtain ⟨xs, bs, rs⟩ := d
  simp only [D3.sz, ← hd, allV] at h
  exact allA_ok (allB_ok (allN_ok h xs rfl) bs rfl) rs rfl
/-- Functions of so many numbers, truths and rows. -/
def curA : Nat → Type → Type
  | 0, α => α
  | k + 1, α => (Int → Int) → curA k α
def curB : Nat → Type → Type
  | 0, α => α
  | k + 1, α => Bool → curB k α
def curN : Nat → Type → Type
  | 0, α => α
  | k + 1, α => Int → curN k α
abbrev cur (z : Sz) (α : Type) : Type := curN z.n (curB z.m (curA z.q α))
def appA {α : Type} : (m : Nat) → curA m α → List (Int → Int) → α
  | 0, f, _ => f
  | m + 1, f, l => appA m (f (l.headD fun _ => 0)) l.tail
def appB {α : Type} : (m : Nat) → curB m α → List Bool → α
  | 0, f, _ => f
  | m + 1, f, l => appB m (f (l.headD false)) l.tail
def appN {α : Type} : (k : Nat) → curN k α → List Int → α
  | 0, f, _ => f
  | k + 1, f, l => appN k (f (l.headD 0)) l.tail
def app3 {α : Type} (z : Sz) (f : cur z α) (d : D3) : α := appA z.q (appB z.m (appN z.n f d.1) d.2.1) d.2.2

/-- What has to be shown: R of what is returned; of a loop's body N of the next round's numbers, O of those that lead out. -/
def Tr.vc (P : Program) : Tr → (D3 → Prop) → (D3 → Prop) → (Nat → D3 → Prop) → Option (Nat × D3) → Vs → Prop
  | .ret x _, R, _, _, _, V => R (x.den V)
  | .next x _, _, N, _, _, V => N (x.den V)
  | .out i x _, _, _, O, _, V => O i (x.den V)
  | .ite b t e, R, N, O, _, V => (b.den (envV V) = true → t.vc P R N O none V) ∧ (b.den (envV V) = false → e.vc P R N O none V)
  | .call S x x' c t, R, N, O, _, V => exV S.out fun d => Spec P S ⟨denN (envV V) x.ns, denB (envV V) x.bs, denA (envV V) x.rs⟩ d.1 d.2.1 d.2.2 ∧ t.vc P R N O none (V.plus d)
  | .pcall f args r z t, R, N, O, _, V => exV z fun d => (∀ w, Calls P f (denL (envV V) σ0 args).toArray w fun e w' => e = .returned (r.den (envV (V.plus d)) σ0) ∧ Below w.heap.size w w') ∧ t.vc P R N O none (V.plus d)
  | .rng i lo hi t, R, N, O, _, V => (lo ≤ V.L.getD i 0 ∧ V.L.getD i 0 ≤ hi) ∧ t.vc P R N O none V
  | .arng i lo hi t, R, N, O, _, V => (∀ x, lo ≤ V.A.getD i (fun _ => 0) x ∧ V.A.getD i (fun _ => 0) x ≤ hi) ∧ t.vc P R N O none V
  | .whole i M t, R, N, O, _, V => ∃ x : Int, (Rp (V.L.getD i 0).toNat x ∧ x.natAbs ≤ M) ∧ t.vc P R N O none (V.add [x] [] [])
  | .awhole i M t, R, N, O, _, V => ∃ f : Int → Int, (∀ x, Rp (V.A.getD i (fun _ => 0) x).toNat (f x) ∧ (f x).natAbs ≤ M) ∧ t.vc P R N O none (V.add [] [] [f])
  | .fact b v t, R, N, O, _, V => b.den (envV V) = v ∧ t.vc P R N O none V
  | .loop l body exits, R, N, O, _, V => ∃ (I : cur l.z Prop) (rk : cur l.z Nat), app3 l.z I (l.init.den V) ∧
      allV l.z fun d => app3 l.z I d → body.vc P (fun _ => False) (fun d' => app3 l.z I d' ∧ app3 l.z rk d' < app3 l.z rk d) (fun i d' => exits.vc P R N O (some (i, d')) V) none (V.plus d)
  | .ex _ _ t rest, R, N, O, s, V => match s with
    | some (0, d) => t.vc P R N O none (V.plus d)
    | some (i + 1, d) => rest.vc P R N O (some (i, d)) V
    | none => False
  | .told l t, R, N, O, _, V => l.Ok P (envV V) ∧ t.vc P R N O none V
  | .jn _ _ t, R, N, O, _, V => t.vc P R N O none V
  | .nil, _, _, _, _, _ => False

mutual
/-- Slices of nothing that are asked for as rows become such ones. -/
def ghoV (K : Hp) : SV → SV → Hp → SV × Hp
  | .asl b _, .slice base 0 0, H => (match getA K b with
    | some (y, A) => (.asl H.length (.lit 0), H ++ [some ⟨[], y.elem, false, true, some ⟨.lit 0, A.sh, zeroC A.sh⟩⟩])
    | none => (.slice base 0 0, H))
  | .tuple l, .tuple m, H => (.tuple (ghoL K l m H).1, (ghoL K l m H).2)
  | .agg l, .agg m, H => (.agg (ghoL K l m H).1, (ghoL K l m H).2)
  | _, v, H => (v, H)
def ghoL (K : Hp) : List SV → List SV → Hp → List SV × Hp
  | f :: l, v :: m, H => ((ghoV K f v H).1 :: (ghoL K l m (ghoV K f v H).2).1, (ghoL K l m (ghoV K f v H).2).2)
  | _, m, H => (m, H)
end
mutual
theorem ghoV_ok {ρ : Env} (K : Hp) : ∀ (f v : SV) (H : Hp) {σ : Sg} {w : World}, HRel P ρ σ H w → v.inside H.length = true →
    ∃ σ', Post P ρ σ σ' H (ghoV K f v H).2 [] w w ∧ (ghoV K f v H).1.den ρ σ' = v.den ρ σ ∧ (ghoV K f v H).1.inside (ghoV K f v H).2.length = true ∧ ((ghoV K f v H).1.isAny = v.isAny) := by
  intro f v H σ w hr hv
  unfold ghoV
  split
  · rename_i b n base
    split
    · rename_i y A hA
      have hp := Post.add (w' := w) hr ⟨[], y.elem, false, true, some ⟨.lit 0, A.sh, zeroC A.sh⟩⟩ ⟨0, 0, 0, some (base.map σ.addr)⟩ rfl (fun h => by cases h)
        (BlkAt.ofRows rfl rfl fun B hB => by
          simp only [Option.some.injEq] at hB; subst hB
          exact ⟨by simp [NE.den], zeroC_fit _, (fun _ _ => by simp [NE.den]), (fun h => by cases h), (fun h => by cases h)⟩) rfl rfl rfl (Nat.le_refl _) fun _ _ => rfl
      exact ⟨_, hp, by simp [SV.den, Sg.snocP], by simp [SV.inside], rfl⟩
    · exact ⟨σ, Post.refl hr, rfl, hv, rfl⟩
  · rename_i l m
    obtain ⟨σ', h1, h2, h3⟩ := ghoL_ok K l m H hr hv
    exact ⟨σ', h1, by simp only [SV.den, h2], h3, rfl⟩
  · rename_i l m
    obtain ⟨σ', h1, h2, h3⟩ := ghoL_ok K l m H hr hv
    exact ⟨σ', h1, by simp only [SV.den, h2], h3, rfl⟩
  · exact ⟨σ, Post.refl hr, rfl, hv, rfl⟩
theorem ghoL_ok {ρ : Env} (K : Hp) : ∀ (l m : List SV) (H : Hp) {σ : Sg} {w : World}, HRel P ρ σ H w → insideL H.length m = true →
    ∃ σ', Post P ρ σ σ' H (ghoL K l m H).2 [] w w ∧ denL ρ σ' (ghoL K l m H).1 = denL ρ σ m ∧ insideL (ghoL K l m H).2.length (ghoL K l m H).1 = true := by
  intro l m H σ w hr hm
  unfold ghoL
  split
  · rename_i f l v m
    simp only [insideL, Bool.and_eq_true] at hm
    obtain ⟨σ1, p1, d1, i1, _⟩ := ghoV_ok K f v H hr hm.1
    have hm2 : insideL (ghoV K f v H).2.length m = true := insideL_mono p1.len m hm.2
    obtain ⟨σ2, p2, d2, i2⟩ := ghoL_ok K l m (ghoV K f v H).2 p1.rel hm2
    refine ⟨σ2, p1.trans p2, ?_, ?_⟩
    · simp only [denL]
      rw [d2, SV.den_agree p2.ext _ i1, d1, denL_agree p1.ext _ hm.2]
    · simp only [insideL, Bool.and_eq_true]
      exact ⟨SV.inside_mono p2.len _ i1, i2⟩
  · exact ⟨σ, Post.refl hr, rfl, hm⟩
end

/-- What the tree is of. -/
inductive Job where
  | fn (S : Sig)
  | body (l : LoopN) (exits : List (Res × Sz)) (z : Sz)
def exitsOf : Tr → List (Res × Sz)
  | .ex r z _ rest => (r, z) :: exitsOf rest
  | _ => []
def isNormal : Ex → Bool
  | .normal => true
  | _ => false
/-- One run of a loop's body, told by other terms. -/
def outChk (P : Program) (S : Facts) (lf d : Nat) (c : Ctx) (l : LoopN) (e : Ex) (Tt : List SV) (Ht : Hp) (z zz : Sz) (x : X3) (ren : List Nat) : Bool :=
  decide (x.sz = zz) && (match codeAt P l.g (0 :: l.p) with
  | some y => if Nat.ble l.T.length 549755813888 then (match evCW P (c.facts S) c.loops lf (evFS P (c.facts S) c.loops lf d) l.g 1000 (0 :: l.p) y (Sl.ofL l.T) l.H [] with
    | some (e1, T1, H1, W1) => decide (e1 = e) && convChk z x l.H0 l.W T1.toL H1 W1 Tt Ht ren
    | none => false) else false
  | none => false)
def loopChk (P : Program) (l : LoopN) (exits : List (Res × Sz)) (z : Sz) : Bool :=
  decide (l.init.sz = l.z) && (belL z l.T0 && (belH z l.H0 && (belL (z.add l.z) l.T && (belH (z.add l.z) l.H && ((match absb P l.acts l.T0 l.H0 with
    | some (T1, H1, W1) => convChk z l.init l.H0 l.W T1 H1 W1 l.T l.H l.ren
    | none => false) && exits.all fun x => !(isNormal x.1.1) && (decide (x.1.2.2.2 = l.W) && (belL (z.add x.2) x.1.2.1 && belH (z.add x.2) x.1.2.2.1)))))))
/-- The same on both sides. -/
def prRefl : Pr → Bool
  | .num x y => decide (x = y)
  | .tru x y => decide (x = y)
  | .txt i j => Nat.beq i j
  | .arr x y => decide (x = y)
theorem prRefl_ok {ρ : Env} {l : List Pr} (h : l.all prRefl = true) : All ρ ρ l := by
  intro p hp
  have := List.all_eq_true.1 h p hp
  cases p with
  | num x y => simp only [prRefl, decide_eq_true_eq] at this; simp only [Pr.holds, this]
  | tru x y => simp only [prRefl, decide_eq_true_eq] at this; simp only [Pr.holds, this]
  | txt i j => simp only [prRefl] at this; have := Nat.eq_of_beq_eq_true this; subst this; rfl
  | arr x y => simp only [prRefl, decide_eq_true_eq] at this; simp only [Pr.holds, this]
/-- A loop that is walked as it stands. -/
def toldChk (P : Program) (S : Facts) (lf d : Nat) (c : Ctx) (l : LoopF) : Bool := match codeAt P l.f l.path with
  | some x => (match Nat.ble l.T.length 549755813888 with
    | true => (match evCW P (c.facts S) c.loops lf (evFS P (c.facts S) c.loops lf d) l.f 1000 l.path x (Sl.ofL l.T) l.H [] with
      | some (e, T1, H1, W1) => decide (e = l.r.1) && (okC l.H H1 W1 l.r.2.1 l.r.2.2.1 l.r.2.2.2 && (match prT T1.toL l.r.2.1, prH H1 l.r.2.2.1 with
        | some l1, some l2 => (l1 ++ l2).all prRefl
        | _, _ => false))
      | none => false)
    | false => false)
  | none => false
theorem walk_ok {ρ : Env} (hm : P.follows .mixedOrders = true) (hn : namesOk P = true) {S : Facts} (hS : S.Holds P ρ) {lf d : Nat} {c : Ctx} (hc : c.Holds P ρ) {g : FuncId} {p : List Nat} {x : Code} {T : List SV} {H : Hp} {e : Ex} {T1 : Sl} {H1 : Hp} {W1 : List Nat}
    (hx : codeAt P g p = some x) (hle : T.length ≤ 549755813888) (he : evCW P (c.facts S) c.loops lf (evFS P (c.facts S) c.loops lf d) g 1000 p x (Sl.ofL T) H [] = some (e, T1, H1, W1)) : Leads P ρ x T H (e, T1.toL, H1, W1) := by
  have eT : (Sl.ofL T).toL = T := Sl.ofL_toL hle
  have hsm : (Sl.ofL T).small = true := by
    unfold Sl.small Sl.ofL
    exact Nat.ble_eq.mpr hle
  obtain ⟨hC, _⟩ := evCS_ok P _ _ lf _ _ _ _ _ _ _ _ hsm (evCW_nil he)
  rw [eT] at hC
  exact evC_ok hm hn (Ctx.facts_ok hS hc) hc.loops (evFS_ok hm hn (Ctx.facts_ok hS hc) hc.loops d) _ _ _ _ _ _ hx hC
theorem told_loop {ρ : Env} (hm : P.follows .mixedOrders = true) (hn : namesOk P = true) {S : Facts} (hS : S.Holds P ρ) {lf d : Nat} {c : Ctx} (hc : c.Holds P ρ) {l : LoopF} (h : toldChk P S lf d c l = true) : l.Ok P ρ := by
  intro x hx
  unfold toldChk at h
  rw [hx] at h
  simp only at h
  split at h
  · rename_i hle
    have hle := Nat.le_of_ble_eq_true hle
    split at h
    · rename_i e T1 H1 W1 he
      have hC := walk_ok hm hn hS hc hx hle he
      simp only [Bool.and_eq_true, decide_eq_true_eq] at h
      obtain ⟨h1, h2, h3⟩ := h
      split at h3
      · rename_i l1 l2 q1 q2
        have hA := prRefl_ok (ρ := ρ) h3
        have := hC.conv q1 q2 h2 hA.left hA.right
        obtain ⟨f, p, T, H, r1, r2, r3, r4⟩ := l
        simp only at h1 this ⊢
        subst h1
        exact this
      · cases h3
    · cases h
  · cases h
/-- A loop that is walked in all cases of some truths, with one and the same end. -/
def toldBits (P : Program) (S : Facts) (lf d : Nat) : List BE → Ctx → LoopF → Bool
  | [], c, l => toldChk P S lf d c l
  | b :: bs, c, l => toldBits P S lf d bs (c.bit b true) l && toldBits P S lf d bs (c.bit b false) l
theorem told_bits {ρ : Env} (hm : P.follows .mixedOrders = true) (hn : namesOk P = true) {S : Facts} (hS : S.Holds P ρ) {lf d : Nat} {l : LoopF} : ∀ (bs : List BE) {c : Ctx}, c.Holds P ρ → toldBits P S lf d bs c l = true → l.Ok P ρ
  | [], c, hc, h => told_loop hm hn hS hc h
  | b :: bs, c, hc, h => by
    simp only [toldBits, Bool.and_eq_true] at h
    cases hb : b.den ρ with
    | true => exact told_bits hm hn hS bs (Ctx.bit_ok hc hb) h.1
    | false => exact told_bits hm hn hS bs (Ctx.bit_ok hc hb) h.2
/-- A contract's terms: the inputs, and behind them new variables for the results. -/
def freshX (z : Sz) (o : Sz) : X3 := ⟨(List.range o.n).map fun i => .var (z.n + i), (List.range o.m).map fun i => .var (z.m + i), (List.range o.q).map fun i => .avar (z.q + i)⟩
def X3.app (x y : X3) : X3 := ⟨x.ns ++ y.ns, x.bs ++ y.bs, x.rs ++ y.rs⟩
theorem map_congr_range {α : Type} {f g : Nat → α} : ∀ (k : Nat), (∀ i, i < k → f i = g i) → (List.range k).map f = (List.range k).map g := fun k h => List.map_congr_left fun i hi => h i (List.mem_range.1 hi)
theorem range_getD {α : Type} (L l : List α) (d : α) : (List.range l.length).map (fun i => (L ++ l).getD (L.length + i) d) = l := by
  apply List.ext_getElem?
  intro i
  rw [List.getElem?_map]
  by_cases hi : i < l.length
  · rw [List.getElem?_range hi]
    simp [List.getD_eq_getElem?_getD, List.getElem?_append_right, hi]
  · rw [List.getElem?_eq_none (by simpa using hi), List.getElem?_eq_none (by omega)]; rfl
theorem freshX_den (V : Vs) (d : D3) : (freshX V.sz d.sz).den (V.plus d) = d := by
  obtain ⟨xs, bs, rs⟩ := d
  simp only [freshX, X3.den, denN, denB, denA, List.map_map, D3.sz]
  refine Prod.ext ?_ (Prod.ext ?_ ?_)
  · exact (map_congr_range _ fun i _ => by simp [NE.den, envV, Vs.plus, Vs.add, Vs.sz]).trans (range_getD V.L xs 0)
  · exact (map_congr_range _ fun i _ => by simp [BE.den, envV, Vs.plus, Vs.add, Vs.sz]).trans (range_getD V.B bs false)
  · exact (map_congr_range _ fun i _ => by simp [NE.aden, envV, Vs.plus, Vs.add, Vs.sz]).trans (range_getD V.A rs fun _ => 0)
/-- That these are all ways. -/
def Tr.chk (P : Program) (S : Facts) (lf d : Nat) : Tr → Job → Ctx → Sz → Bool
  | .ret x ren, J, c, _ => (match J with
    | .fn F => decide (x.sz = F.out) && (match evFS P (c.facts S) c.loops lf d F.f F.args F.H with
      | some (u, H1, W1) => convChk F.inp x F.H [] [(ghoV (F.H ++ F.Hn) F.r u H1).1] (ghoV (F.H ++ F.Hn) F.r u H1).2 W1 [F.r] (F.H ++ F.Hn) ren && !F.r.isAny
      | none => false)
    | _ => false)
  | .next x ren, J, c, _ => (match J with
    | .body l _ z0 => outChk P S lf d c l .normal l.T l.H z0 l.z x ren
    | _ => false)
  | .out i x ren, J, c, _ => (match J with
    | .body l exits z0 => (match exits[i]? with
      | some (r, zz) => outChk P S lf d c l r.1 r.2.1 r.2.2.1 z0 zz x ren
      | none => false)
    | _ => false)
  | .ite b t e, J, c, z => b.bel z && (t.chk P S lf d J (c.bit b true) z && e.chk P S lf d J (c.bit b false) z)
  | .call F x x' ce t, J, c, z => x.bel z && (decide (x'.ns = x.ns ++ (freshX z F.out).ns) && (decide (x'.bs = x.bs ++ (freshX z F.out).bs) && (decide (x'.rs = x.rs ++ (freshX z F.out).rs) && (callChk F x x' ce && (belE (z.add F.out) ce && t.chk P S lf d J { c with callsH := ce :: c.callsH } (z.add F.out))))))
  | .pcall g gs r y t, J, c, z => belL z gs && (r.bel (z.add y) && t.chk P S lf d J { c with calls := ((g, gs), r) :: c.calls } (z.add y))
  | .rng i lo hi t, J, c, z => Nat.blt i z.n && t.chk P S lf d J { c with dom := c.dom.addR i lo hi } z
  | .arng i lo hi t, J, c, z => Nat.blt i z.q && t.chk P S lf d J { c with dom := c.dom.addA i lo hi } z
  | .whole i M t, J, c, z => Nat.blt i z.n && (Nat.ble M 9007199254740992 && t.chk P S lf d J { c with dom := { c.dom with whs := (i, .var z.n, M) :: c.dom.whs } } (z.add ⟨1, 0, 0⟩))
  | .awhole i M t, J, c, z => Nat.blt i z.q && (Nat.ble M 9007199254740992 && t.chk P S lf d J { c with dom := { c.dom with awhs := (i, .avar z.q, M) :: c.dom.awhs } } (z.add ⟨0, 0, 1⟩))
  | .fact b v t, J, c, z => b.bel z && t.chk P S lf d J (c.bit b v) z
  | .loop l body exits, J, c, z => loopChk P l (exitsOf exits) z && (body.chk P S lf d (.body l (exitsOf exits) z) c (z.add l.z) && exits.chk P S lf d J { c with cur := some l } z)
  | .ex r y t rest, J, c, z => (match c.cur with
    | some l => t.chk P S lf d J { c with loops := ⟨l.g, l.p, l.T0, l.H0, r⟩ :: c.loops, cur := none } (z.add y) && rest.chk P S lf d J c z
    | none => false)
  | .told l t, J, c, z => belF z l && t.chk P S lf d J { c with loops := l :: c.loops } z
  | .jn l bs t, J, c, z => (belF z l && toldBits P S lf d bs c l) && t.chk P S lf d J { c with loops := l :: c.loops } z
  | .nil, _, _, _ => true

/-- What is so of the function, or of the loop's body. -/
def Concl (P : Program) (R : D3 → Prop) (N : D3 → Prop) (O : Nat → D3 → Prop) (V : Vs) : Job → Prop
  | .fn F => ∃ d : D3, d.sz = F.out ∧ R d ∧ Spec P F (V.first F.inp) d.1 d.2.1 d.2.2
  | .body l exits z =>
    (∃ d : D3, d.sz = l.z ∧ N d ∧ ∀ x, codeAt P l.g l.p = some (.loop x) → From P (envV V) (envV ((V.first z).plus d)) l.H0 l.W x l.T l.H .normal l.T l.H) ∨
    (∃ i r y d, exits[i]? = some (r, y) ∧ d.sz = y ∧ O i d ∧ ∀ x, codeAt P l.g l.p = some (.loop x) → From P (envV V) (envV ((V.first z).plus d)) l.H0 l.W x l.T l.H r.1 r.2.1 r.2.2.1)
/-- The job names variables that are there. -/
def Job.Bel (P : Program) (z : Sz) : Job → Prop
  | .fn F => F.inp.le z ∧ belL F.inp F.args = true ∧ belH F.inp F.H = true ∧ insideL F.H.length F.args = true ∧ ((P.funcs[F.f]?).bind (·.body)).isSome = true
  | .body l exits z0 => z0.le z ∧ belL z l.T = true ∧ belH z l.H = true
theorem Job.Bel.mono {z z' : Sz} (hz : z.le z') {J : Job} (h : J.Bel P z) : J.Bel P z' := by
  cases J with
  | fn F => exact ⟨Sz.le_trans h.1 hz, h.2⟩
  | body l exits z0 => exact ⟨Sz.le_trans h.1 hz, belL_mono hz _ h.2.1, belH_mono hz _ h.2.2⟩
theorem From.back {V V' : Vs} (hE : Ext V V') {ρ' : Env} {H0 : Hp} {W : List Nat} {c : Code} {T : List SV} {H : Hp} {e : Ex} {T' : List SV} {H' : Hp} (h1 : belL V.sz T = true) (h2 : belH V.sz H = true) (h : From P (envV V') ρ' H0 W c T H e T' H') : From P (envV V) ρ' H0 W c T H e T' H' :=
  fun ro m B ds σ0 σ w0 w a Q hp hT hM hQ => h ro m B ds σ0 σ w0 w a Q (Post.rel_to hE hp ((hE.hrel h2).2 hp.rel)) ((hE.trel h1).2 hT) hM hQ
theorem Concl.back {R : D3 → Prop} {N : D3 → Prop} {O : Nat → D3 → Prop} {V V' : Vs} {J : Job} (hE : Ext V V') (hJ : J.Bel P V.sz) (h : Concl P R N O V' J) : Concl P R N O V J := by
  cases J with
  | fn F =>
    obtain ⟨d, h1, h2, h3⟩ := h
    exact ⟨d, h1, h2, by rw [← Vs.first_ext hE hJ.1]; exact h3⟩
  | body l exits z =>
    simp only [Concl, Vs.first_ext hE hJ.1] at h ⊢
    rcases h with ⟨d, h1, h2, h3⟩ | ⟨i, r, y, d, h0, h1, h2, h3⟩
    · exact .inl ⟨d, h1, h2, fun x hx => (h3 x hx).back hE hJ.2.1 hJ.2.2⟩
    · exact .inr ⟨i, r, y, d, h0, h1, h2, fun x hx => (h3 x hx).back hE hJ.2.1 hJ.2.2⟩

theorem X3.den_sz (V : Vs) (x : X3) : (x.den V).sz = x.sz := by simp [D3.sz, X3.den, X3.sz, denN, denB, denA]
theorem outChk_ok (hm : P.follows .mixedOrders = true) (hn : namesOk P = true) {S : Facts} {V : Vs} (hS : S.Holds P (envV V)) {lf d : Nat} {c : Ctx} (hc : c.Holds P (envV V)) {l : LoopN} {e : Ex} {Tt : List SV} {Ht : Hp} {z zz : Sz} {x : X3} {ren : List Nat}
    (hz : z.le V.sz) (h : outChk P S lf d c l e Tt Ht z zz x ren = true) :
    (x.den V).sz = zz ∧ ∀ y, codeAt P l.g l.p = some (.loop y) → From P (envV V) (envV ((V.first z).plus (x.den V))) l.H0 l.W y l.T l.H e Tt Ht := by
  simp only [outChk, Bool.and_eq_true, decide_eq_true_eq] at h
  obtain ⟨h1, h2⟩ := h
  refine ⟨by rw [X3.den_sz]; exact h1, fun y hy => ?_⟩
  have hy' : codeAt P l.g (0 :: l.p) = some y := codeAt_child hy rfl
  rw [hy'] at h2
  simp only at h2
  split at h2
  · rename_i hle
    have hle := Nat.le_of_ble_eq_true hle
    split at h2
    · rename_i e1 T1 H1 W1 he
      simp only [Bool.and_eq_true, decide_eq_true_eq] at h2
      obtain ⟨h3, h4⟩ := h2
      subst h3
      rw [← Vs.put_first]
      exact from_ok hz (walk_ok hm hn hS hc hy' hle he) h4
    · cases h2
  · cases h2

theorem exitsOf_get : ∀ {t : Tr} {i : Nat} {r : Res} {y : Sz}, (exitsOf t)[i]? = some (r, y) → ∀ {R : D3 → Prop} {N : D3 → Prop} {O : Nat → D3 → Prop} {dd : D3} {V : Vs} {S : Facts} {lf d : Nat} {J : Job} {c : Ctx} {l : LoopN},
    c.cur = some l → t.vc P R N O (some (i, dd)) V → t.chk P S lf d J c V.sz = true →
    ∃ t' : Tr, SizeOf.sizeOf t' < SizeOf.sizeOf t ∧ t'.vc P R N O none (V.plus dd) ∧ t'.chk P S lf d J { c with loops := ⟨l.g, l.p, l.T0, l.H0, r⟩ :: c.loops, cur := none } (V.sz.add y) = true
  | .ex r y t rest, 0, _, _, h, R, N, O, dd, V, S, lf, d, J, c, l, hcur, hv, hk => by
    simp only [exitsOf, List.getElem?_cons_zero, Option.some.injEq, Prod.mk.injEq] at h
    obtain ⟨rfl, rfl⟩ := h
    simp only [Tr.chk, hcur, Bool.and_eq_true] at hk
    exact ⟨t, by simp; omega, hv, hk.1⟩
  | .ex r y t rest, i + 1, _, _, h, R, N, O, dd, V, S, lf, d, J, c, l, hcur, hv, hk => by
    simp only [exitsOf, List.getElem?_cons_succ] at h
    simp only [Tr.chk, hcur, Bool.and_eq_true] at hk
    obtain ⟨t', h1, h2, h3⟩ := exitsOf_get h hcur hv hk.2
    exact ⟨t', by simp; omega, h2, h3⟩
  | .ret _ _, _, _, _, h, _, _, _, _, _, _, _, _, _, _, _, _, _, _ => by simp [exitsOf] at h
  | .next _ _, _, _, _, h, _, _, _, _, _, _, _, _, _, _, _, _, _, _ => by simp [exitsOf] at h
  | .out _ _ _, _, _, _, h, _, _, _, _, _, _, _, _, _, _, _, _, _, _ => by simp [exitsOf] at h
  | .ite _ _ _, _, _, _, h, _, _, _, _, _, _, _, _, _, _, _, _, _, _ => by simp [exitsOf] at h
  | .call _ _ _ _ _, _, _, _, h, _, _, _, _, _, _, _, _, _, _, _, _, _, _ => by simp [exitsOf] at h
  | .pcall _ _ _ _ _, _, _, _, h, _, _, _, _, _, _, _, _, _, _, _, _, _, _ => by simp [exitsOf] at h
  | .rng _ _ _ _, _, _, _, h, _, _, _, _, _, _, _, _, _, _, _, _, _, _ => by simp [exitsOf] at h
  | .arng _ _ _ _, _, _, _, h, _, _, _, _, _, _, _, _, _, _, _, _, _, _ => by simp [exitsOf] at h
  | .whole _ _ _, _, _, _, h, _, _, _, _, _, _, _, _, _, _, _, _, _, _ => by simp [exitsOf] at h
  | .awhole _ _ _, _, _, _, h, _, _, _, _, _, _, _, _, _, _, _, _, _, _ => by simp [exitsOf] at h
  | .fact _ _ _, _, _, _, h, _, _, _, _, _, _, _, _, _, _, _, _, _, _ => by simp [exitsOf] at h
  | .loop _ _ _, _, _, _, h, _, _, _, _, _, _, _, _, _, _, _, _, _, _ => by simp [exitsOf] at h
  | .told _ _, _, _, _, h, _, _, _, _, _, _, _, _, _, _, _, _, _, _ => by simp [exitsOf] at h
  | .jn _ _ _, _, _, _, h, _, _, _, _, _, _, _, _, _, _, _, _, _, _ => by simp [exitsOf] at h
  | .nil, _, _, _, h, _, _, _, _, _, _, _, _, _, _, _, _, _, _ => by simp [exitsOf] at h

theorem ret_ok (hm : P.follows .mixedOrders = true) (hn : namesOk P = true) {S : Facts} {V : Vs} (hS : S.Holds P (envV V)) {lf d : Nat} {c : Ctx} (hc : c.Holds P (envV V)) {F : Sig} {u : SV} {H1 : Hp} {W1 : List Nat} {x : X3} {ren : List Nat}
    (hJ : (Job.fn F).Bel P V.sz) (he : evFS P (c.facts S) c.loops lf d F.f F.args F.H = some (u, H1, W1)) (h : convChk F.inp x F.H [] [(ghoV (F.H ++ F.Hn) F.r u H1).1] (ghoV (F.H ++ F.Hn) F.r u H1).2 W1 [F.r] (F.H ++ F.Hn) ren = true) (hany : F.r.isAny = false) :
    Spec P F (V.first F.inp) (x.den V).1 (x.den V).2.1 (x.den V).2.2 := by
  obtain ⟨j1, j2, j3, j4, j5⟩ := hJ
  intro σ w hr0
  have hE : Ext (V.first F.inp) V := by
    refine ⟨⟨V.L.drop F.inp.n, ?_⟩, ⟨V.B.drop F.inp.m, ?_⟩, ⟨V.A.drop F.inp.q, ?_⟩⟩ <;> simp [Vs.first]
  have esz := Vs.first_sz j1
  have hr : HRel P (envV V) σ F.H w := (hE.hrel (by rw [esz]; exact j3)).2 hr0
  have ea : denL (envV V) σ F.args = denL (envV (V.first F.inp)) σ F.args := denL_ext hE σ _ (by rw [esz]; exact j2)
  rw [← ea]
  have := evFS_ok hm hn (Ctx.facts_ok hS hc) hc.loops d F.f F.args F.H _ he σ w hr j4
  rw [callY_ne (notY hn j5)] at this
  obtain ⟨fn, hf⟩ : ∃ fn, P.funcs[F.f]? = some fn := by
    cases hf : P.funcs[F.f]? with
    | none => rw [hf] at j5; cases j5
    | some fn => exact ⟨fn, rfl⟩
  rw [hf] at j5
  obtain ⟨cc, hcc⟩ := Option.isSome_iff_exists.1 j5
  rw [enters hn hf (by simpa using hcc)] at this
  refine Calls.mono this fun e w' ⟨v, hv, σ0', hp0, hu0, hi0⟩ => ?_
  obtain ⟨σ1, hpg, hdg, hi, _⟩ := ghoV_ok (P := P) (F.H ++ F.Hn) F.r u H1 hp0.rel hi0
  have hp := (hp0.trans hpg).mono (W' := W1) fun b hb => by simpa using hb
  have hu : v = (ghoV (F.H ++ F.Hn) F.r u H1).1.den (envV V) σ1 := hu0.trans hdg.symm
  generalize ghoV (F.H ++ F.Hn) F.r u H1 = gq at *
  obtain ⟨u, H1⟩ := gq
  simp only at hp hu hi h
  have hT : TRel [] (envV V) σ1 H1.length [u] { tmps := #[v], defers := [] } := by
    refine ⟨fun t ht => ?_, fun y hy => by simp at hy; subst hy; exact hi, rfl, rfl⟩
    cases t with
    | zero => simpa using hu
    | succ t => simp [uS_den]
  obtain ⟨σ2, hp2, hT2⟩ := conv_ok j1 h (W := []) (ρ0 := envV V) (a := { tmps := #[v], defers := [] }) (by simpa using hp) hT
  rw [Vs.put_first] at hp2 hT2
  refine ⟨σ2, hp2, ?_⟩
  have := hT2.val 0 (by simpa using hany)
  rw [hv]
  simp at this
  rw [this]; rfl

theorem tree_ok (hm : P.follows .mixedOrders = true) (hn : namesOk P = true) {S : Facts} (hS : ∀ V, S.Holds P (envV V)) {lf d : Nat} (t : Tr) (J : Job) (c : Ctx) (V : Vs) {R : D3 → Prop} {N : D3 → Prop} {O : Nat → D3 → Prop}
    (h : t.chk P S lf d J c V.sz = true) (hc : c.Holds P (envV V)) (hbel : c.Bel V.sz) (hJ : J.Bel P V.sz) (hv : t.vc P R N O none V) : Concl P R N O V J := by
  match t with
  | .ret x ren =>
    cases J with
    | body l exits z => simp [Tr.chk] at h
    | fn F =>
      simp only [Tr.chk, Bool.and_eq_true, decide_eq_true_eq] at h
      obtain ⟨h0, h⟩ := h
      split at h
      · rename_i u H1 W1 he
        simp only [Bool.and_eq_true, Bool.not_eq_true'] at h
        exact ⟨x.den V, by rw [X3.den_sz]; exact h0, hv, ret_ok hm hn (hS V) hc hJ he h.1 h.2⟩
      · cases h
  | .next x ren =>
    cases J with
    | fn F => simp [Tr.chk] at h
    | body l exits z =>
      simp only [Tr.chk] at h
      obtain ⟨h1, h2⟩ := outChk_ok hm hn (hS V) hc hJ.1 h
      exact .inl ⟨_, h1, hv, h2⟩
  | .out i x ren =>
    cases J with
    | fn F => simp [Tr.chk] at h
    | body l exits z =>
      simp only [Tr.chk] at h
      split at h
      · rename_i r y hx
        obtain ⟨h1, h2⟩ := outChk_ok hm hn (hS V) hc hJ.1 h
        exact .inr ⟨i, r, y, _, hx, h1, hv, h2⟩
      · cases h
  | .ite b t e =>
    simp only [Tr.chk, Bool.and_eq_true] at h
    cases hd : b.den (envV V) with
    | true => exact tree_ok hm hn hS t J _ V h.2.1 (Ctx.bit_ok hc hd) (Ctx.bit_bel hbel h.1) hJ (hv.1 hd)
    | false => exact tree_ok hm hn hS e J _ V h.2.2 (Ctx.bit_ok hc hd) (Ctx.bit_bel hbel h.1) hJ (hv.2 hd)
  | .call F x x' ce t =>
    simp only [Tr.chk, Bool.and_eq_true, decide_eq_true_eq] at h
    obtain ⟨g1, g2, g3, g4, g5, g6, g7⟩ := h
    obtain ⟨dd, hdd, hv1, hv2⟩ := exV_ok hv
    have hE : Ext V (V.plus dd) := Ext.add V _ _ _
    have esz : (V.plus dd).sz = V.sz.add F.out := by rw [Vs.plus_sz, hdd]
    have hfr : (freshX V.sz F.out).den (V.plus dd) = dd := by rw [← hdd]; exact freshX_den V dd
    have hxe : x.den (V.plus dd) = x.den V := by
      simp only [X3.bel, Bool.and_eq_true] at g1
      refine Prod.ext ?_ (Prod.ext ?_ ?_)
      · exact List.map_congr_left fun e he => NE.ext hE e (List.all_eq_true.1 g1.1 e he)
      · exact List.map_congr_left fun e he => BE.ext hE e (List.all_eq_true.1 g1.2.1 e he)
      · exact List.map_congr_left fun e he => NE.exta hE e (List.all_eq_true.1 g1.2.2 e he)
    refine Concl.back hE hJ (tree_ok hm hn hS t J _ (V.plus dd) (by rw [esz]; exact g7) ?_ ?_ (hJ.mono hE.le) hv2)
    · have := hc.ext hE hbel
      refine ⟨this.bits, this.calls, fun e he => ?_, this.dom, this.loops⟩
      rcases List.mem_cons.1 he with rfl | he
      · have e1 : denN (envV (V.plus dd)) x.ns = denN (envV V) x.ns := congrArg Prod.fst hxe
        have e2 : denB (envV (V.plus dd)) x.bs = denB (envV V) x.bs := congrArg (fun q : D3 => q.2.1) hxe
        have e3 : denA (envV (V.plus dd)) x.rs = denA (envV V) x.rs := congrArg (fun q : D3 => q.2.2) hxe
        have f1 : denN (envV (V.plus dd)) (freshX V.sz F.out).ns = dd.1 := congrArg Prod.fst hfr
        have f2 : denB (envV (V.plus dd)) (freshX V.sz F.out).bs = dd.2.1 := congrArg (fun q : D3 => q.2.1) hfr
        have f3 : denA (envV (V.plus dd)) (freshX V.sz F.out).rs = dd.2.2 := congrArg (fun q : D3 => q.2.2) hfr
        refine call_of_spec (xs := dd.1) (bs := dd.2.1) (rs := dd.2.2) g5 ?_ ?_
        · rw [g2, g3, g4]
          simp only [denN, denB, denA, List.map_append, Vs.add] at f1 f2 f3 ⊢
          rw [f1, f2, f3]
        · rw [e1, e2, e3]; exact hv1
      · exact this.callsH e he
    · have := hbel.mono hE.le
      refine ⟨this.bits, this.calls, fun e he => ?_, this.ivs, this.whs, this.aivs, this.awhs, this.loops⟩
      rcases List.mem_cons.1 he with rfl | he
      · rw [esz]; exact g6
      · exact this.callsH e he
  | .pcall g gs r y t =>
    simp only [Tr.chk, Bool.and_eq_true] at h
    obtain ⟨dd, hdd, hv1, hv2⟩ := exV_ok hv
    have hE : Ext V (V.plus dd) := Ext.add V _ _ _
    have esz : (V.plus dd).sz = V.sz.add y := by rw [Vs.plus_sz, hdd]
    refine Concl.back hE hJ (tree_ok hm hn hS t J _ (V.plus dd) (by rw [esz]; exact h.2.2) ?_ ?_ (hJ.mono hE.le) hv2)
    · have := hc.ext hE hbel
      refine ⟨this.bits, fun p hp => ?_, this.callsH, this.dom, this.loops⟩
      rcases List.mem_cons.1 hp with rfl | hp
      · intro w
        simp only
        rw [denL_ext hE σ0 gs h.1]
        exact hv1 w
      · exact this.calls p hp
    · have := hbel.mono hE.le
      refine ⟨this.bits, fun p hp => ?_, this.callsH, this.ivs, this.whs, this.aivs, this.awhs, this.loops⟩
      rcases List.mem_cons.1 hp with rfl | hp
      · exact ⟨belL_mono hE.le _ h.1, by rw [esz]; exact h.2.1⟩
      · exact this.calls p hp
  | .rng i lo hi t =>
    simp only [Tr.chk, Bool.and_eq_true] at h
    exact tree_ok hm hn hS t J _ V h.2 ⟨hc.bits, hc.calls, hc.callsH, Dom.addR_ok hc.dom hv.1.1 hv.1.2, hc.loops⟩ ⟨hbel.bits, hbel.calls, hbel.callsH, addRL_bel hbel.ivs (Nat.blt_eq.mp h.1), hbel.whs, hbel.aivs, hbel.awhs, hbel.loops⟩ hJ hv.2
  | .arng i lo hi t =>
    simp only [Tr.chk, Bool.and_eq_true] at h
    exact tree_ok hm hn hS t J _ V h.2 ⟨hc.bits, hc.calls, hc.callsH, Dom.addA_ok hc.dom hv.1, hc.loops⟩ ⟨hbel.bits, hbel.calls, hbel.callsH, hbel.ivs, hbel.whs, addRL_bel hbel.aivs (Nat.blt_eq.mp h.1), hbel.awhs, hbel.loops⟩ hJ hv.2
  | .whole i M t =>
    simp only [Tr.chk, Bool.and_eq_true] at h
    obtain ⟨x, hx, hv⟩ := hv
    have hE : Ext V (V.add [x] [] []) := Ext.add V _ _ _
    have hi := Nat.blt_eq.mp h.1
    have e : (envV (V.add [x] [] [])).n V.L.length = x := by simp [envV, Vs.add, List.getD_eq_getElem?_getD]
    refine Concl.back hE hJ (tree_ok hm hn hS t J _ (V.add [x] [] []) (by rw [Vs.add_sz]; exact h.2.2) ?_ ?_ (hJ.mono hE.le) hv)
    · have := hc.ext hE hbel
      refine ⟨this.bits, this.calls, this.callsH, ⟨this.dom.ivs, fun p hp => ?_, this.dom.aivs, this.dom.awhs⟩, this.loops⟩
      rcases List.mem_cons.1 hp with rfl | hp
      · simp only [NE.den]
        show Rp ((envV (V.add [x] [] [])).n i).toNat ((envV (V.add [x] [] [])).n V.L.length) ∧ ((envV (V.add [x] [] [])).n V.L.length).natAbs ≤ M ∧ M ≤ 9007199254740992
        rw [hE.n hi, e]
        exact ⟨hx.1, hx.2, Nat.le_of_ble_eq_true h.2.1⟩
      · exact this.dom.whs p hp
    · have := hbel.mono hE.le
      refine ⟨this.bits, this.calls, this.callsH, this.ivs, fun p hp => ?_, this.aivs, this.awhs, this.loops⟩
      rcases List.mem_cons.1 hp with rfl | hp
      · exact ⟨Nat.lt_of_lt_of_le hi hE.le.1, by simp [NE.bel, Vs.sz, Vs.add]⟩
      · exact this.whs p hp
  | .awhole i M t =>
    simp only [Tr.chk, Bool.and_eq_true] at h
    obtain ⟨x, hx, hv⟩ := hv
    have hE : Ext V (V.add [] [] [x]) := Ext.add V _ _ _
    have hi := Nat.blt_eq.mp h.1
    have e : (envV (V.add [] [] [x])).a V.A.length = x := by simp [envV, Vs.add, List.getD_eq_getElem?_getD]
    refine Concl.back hE hJ (tree_ok hm hn hS t J _ (V.add [] [] [x]) (by rw [Vs.add_sz]; exact h.2.2) ?_ ?_ (hJ.mono hE.le) hv)
    · have := hc.ext hE hbel
      refine ⟨this.bits, this.calls, this.callsH, ⟨this.dom.ivs, this.dom.whs, this.dom.aivs, fun p hp => ?_⟩, this.loops⟩
      rcases List.mem_cons.1 hp with rfl | hp
      · simp only [NE.aden]
        show (∀ y, Rp ((envV (V.add [] [] [x])).a i y).toNat ((envV (V.add [] [] [x])).a V.A.length y) ∧ ((envV (V.add [] [] [x])).a V.A.length y).natAbs ≤ M) ∧ M ≤ 9007199254740992
        rw [hE.a hi, e]
        exact ⟨hx, Nat.le_of_ble_eq_true h.2.1⟩
      · exact this.dom.awhs p hp
    · have := hbel.mono hE.le
      refine ⟨this.bits, this.calls, this.callsH, this.ivs, this.whs, this.aivs, fun p hp => ?_, this.loops⟩
      rcases List.mem_cons.1 hp with rfl | hp
      · exact ⟨Nat.lt_of_lt_of_le hi hE.le.2.2, by simp [NE.bel, Vs.sz, Vs.add]⟩
      · exact this.awhs p hp
  | .fact b v t =>
    simp only [Tr.chk, Bool.and_eq_true] at h
    exact tree_ok hm hn hS t J _ V h.2 (Ctx.bit_ok hc hv.1) (Ctx.bit_bel hbel h.1) hJ hv.2
  | .loop l body exits =>
    simp only [Tr.chk, Bool.and_eq_true] at h
    obtain ⟨hl, hb, hx⟩ := h
    simp only [loopChk, Bool.and_eq_true, decide_eq_true_eq] at hl
    obtain ⟨g1, g3, g4, g5, g6, g7, g8⟩ := hl
    obtain ⟨I, rk, hI, hbody⟩ := hv
    have key : ∀ (n : Nat) (dd : D3), dd.sz = l.z → app3 l.z I dd → app3 l.z rk dd < n →
        ∃ i r y d', (exitsOf exits)[i]? = some (r, y) ∧ d'.sz = y ∧ exits.vc P R N O (some (i, d')) V ∧
          ∀ x, codeAt P l.g l.p = some (.loop x) → FromR P (envV (V.plus dd)) (envV (V.plus d')) l.H0 l.W n x l.T l.H r.1 r.2.1 r.2.2.1 := by
      intro n
      induction n with
      | zero => intro dd _ _ h; omega
      | succ n ih =>
        intro dd hdd hIx hlt
        have hE : Ext V (V.plus dd) := Ext.add V _ _ _
        have esz : (V.plus dd).sz = V.sz.add l.z := by rw [Vs.plus_sz, hdd]
        have hvb := allV_ok hbody dd hdd hIx
        have hC := tree_ok hm hn hS body (.body l (exitsOf exits) V.sz) c (V.plus dd) (by rw [esz]; exact hb) (hc.ext hE hbel) (hbel.mono hE.le)
          ⟨hE.le, by rw [esz]; exact g5, by rw [esz]; exact g6⟩ hvb
        simp only [Concl, Vs.first_plus] at hC
        rcases hC with ⟨d', k1, ⟨k3, k4⟩, k5⟩ | ⟨i, r, y, d', q0, q1, q2, q3⟩
        · obtain ⟨i, r, y, d2, q0, q1, q2, q3⟩ := ih d' k1 k3 (by omega)
          exact ⟨i, r, y, d2, q0, q1, q2, fun x hx => FromR.next (k5 x hx) (q3 x hx)⟩
        · have := List.all_eq_true.1 g8 _ (List.mem_of_getElem? q0)
          simp only [Bool.and_eq_true, Bool.not_eq_true'] at this
          exact ⟨i, r, y, d', q0, q1, q2, fun x hx => FromR.out (fun he => by have := this.1; rw [he] at this; cases this) (q3 x hx)⟩
    obtain ⟨i, r, y, d', q0, q1, q2, q3⟩ := key _ (l.init.den V) (by rw [X3.den_sz]; exact g1) hI (Nat.lt_succ_self _)
    obtain ⟨t', hs', hv', hk'⟩ := exitsOf_get q0 (c := { c with cur := some l }) rfl q2 hx
    have hE : Ext V (V.plus d') := Ext.add V _ _ _
    have esz : (V.plus d').sz = V.sz.add y := by rw [Vs.plus_sz, q1]
    have hxr := List.all_eq_true.1 g8 _ (List.mem_of_getElem? q0)
    simp only [Bool.and_eq_true, Bool.not_eq_true', decide_eq_true_eq] at hxr
    split at g7
    · rename_i T1 H1 W1 habs
      refine Concl.back hE hJ (tree_ok hm hn hS t' J _ (V.plus d') (by rw [esz]; exact hk') ?_ ?_ (hJ.mono hE.le) hv')
      · have := hc.ext hE hbel
        refine ⟨this.bits, this.calls, this.callsH, this.dom, fun f hf => ?_⟩
        rcases List.mem_cons.1 hf with rfl | hf
        · intro x hx' ro m B ds σ a w Q hT hr hM hQ
          have hT0 : TRel ds (envV V) σ l.H0.length l.T0 a := (hE.trel g3).1 hT
          have hr0 : HRel P (envV V) σ l.H0 w := (hE.hrel g4).1 hr
          obtain ⟨σ1, p1, t1⟩ := absb_ok habs hr0 hT0
          obtain ⟨σ2, p2, t2⟩ := conv_ok (V := V) (z := V.sz) (Sz.le_refl _) g7 (ρ0 := envV V) (p1.mono (W' := l.W ++ W1) fun b hb => List.mem_append_right _ hb) t1
          rw [Vs.put_first, Vs.first_self] at p2 t2
          refine wpIn_loop_rounds _ (q3 x hx' ro m B ds σ σ2 w w a Q p2 t2 hM fun ds' σ' a' w' hp' hT' hM' => hQ ds' σ' a' w' ?_ hT' hM')
          rw [hxr.2.1]; exact hp'
        · exact this.loops f hf
      · have := hbel.mono hE.le
        refine ⟨this.bits, this.calls, this.callsH, this.ivs, this.whs, this.aivs, this.awhs, fun f hf => ?_⟩
        rcases List.mem_cons.1 hf with rfl | hf
        · simp only [belF, Bool.and_eq_true]
          exact ⟨belL_mono hE.le _ g3, belH_mono hE.le _ g4, by rw [esz]; exact hxr.2.2.1, by rw [esz]; exact hxr.2.2.2⟩
        · exact this.loops f hf
    · cases g7
  | .told l t =>
    simp only [Tr.chk, Bool.and_eq_true] at h
    refine tree_ok hm hn hS t J _ V h.2 ⟨hc.bits, hc.calls, hc.callsH, hc.dom, fun f hf => ?_⟩ ⟨hbel.bits, hbel.calls, hbel.callsH, hbel.ivs, hbel.whs, hbel.aivs, hbel.awhs, fun f hf => ?_⟩ hJ hv.2
    · rcases List.mem_cons.1 hf with rfl | hf
      · exact hv.1
      · exact hc.loops f hf
    · rcases List.mem_cons.1 hf with rfl | hf
      · exact h.1
      · exact hbel.loops f hf
  | .jn l bs t =>
    simp only [Tr.chk, Bool.and_eq_true] at h
    refine tree_ok hm hn hS t J _ V h.2 ⟨hc.bits, hc.calls, hc.callsH, hc.dom, fun f hf => ?_⟩ ⟨hbel.bits, hbel.calls, hbel.callsH, hbel.ivs, hbel.whs, hbel.aivs, hbel.awhs, fun f hf => ?_⟩ hJ hv
    · rcases List.mem_cons.1 hf with rfl | hf
      · exact told_bits hm hn (hS V) bs hc h.1.2
      · exact hc.loops f hf
    · rcases List.mem_cons.1 hf with rfl | hf
      · exact h.1.1
      · exact hbel.loops f hf
  | .ex r y t rest => simp [Tr.vc] at hv
  | .nil => simp [Tr.vc] at hv
termination_by SizeOf.sizeOf t

def startB (D : Dom) (F : Sig) : Bool := D.ivs.all (fun p => Nat.blt p.1 F.inp.n) && (D.whs.all (fun p => Nat.blt p.1 F.inp.n && p.2.1.bel F.inp) && (D.aivs.all (fun p => Nat.blt p.1 F.inp.q) && (D.awhs.all (fun p => Nat.blt p.1 F.inp.q && p.2.1.bel F.inp) && (belL F.inp F.args && (belH F.inp F.H && insideL F.H.length F.args)))))
/-- All ways through a function: what it hands back. -/
theorem tree_at (hm : P.follows .mixedOrders = true) (hn : namesOk P = true) {S : Facts} (hS : ∀ V, S.Holds P (envV V)) {lf d : Nat} (F : Sig) (t : Tr) (D : Dom) (V : Vs) (hV : V.sz = F.inp)
    (hb : ((P.funcs[F.f]?).bind (·.body)).isSome = true) (h0 : startB D F = true) (h : t.chk P S lf d (.fn F) { dom := D } F.inp = true)
    (hD : D.Holds (envV V)) {R : D3 → Prop} (hv : t.vc P R (fun _ => False) (fun _ _ => False) none V) : ∃ d : D3, d.sz = F.out ∧ R d ∧ Spec P F V d.1 d.2.1 d.2.2 := by
  simp only [startB, Bool.and_eq_true] at h0
  obtain ⟨a1, a2, a3, a4, a5, a6, a7⟩ := h0
  have := tree_ok hm hn hS t (.fn F) { dom := D } V (by rw [hV]; exact h) ⟨(fun _ h => by cases h), (fun _ h => by cases h), (fun _ h => by cases h), hD, (fun _ h => by cases h)⟩
    ⟨(fun _ h => by cases h), (fun _ h => by cases h), (fun _ h => by cases h), fun p hp => ?_, fun p hp => ?_, fun p hp => ?_, fun p hp => ?_, (fun _ h => by cases h)⟩ ⟨by rw [hV]; exact Sz.le_refl _, a5, a6, a7, hb⟩ hv
  · obtain ⟨d, h1, h2, h3⟩ := this
    rw [← hV, Vs.first_self] at h3
    exact ⟨d, h1, h2, h3⟩
  · rw [hV]; exact Nat.blt_eq.mp (List.all_eq_true.1 a1 p hp)
  · have := List.all_eq_true.1 a2 p hp
    simp only [Bool.and_eq_true] at this
    rw [hV]; exact ⟨Nat.blt_eq.mp this.1, this.2⟩
  · rw [hV]; exact Nat.blt_eq.mp (List.all_eq_true.1 a3 p hp)
  · have := List.all_eq_true.1 a4 p hp
    simp only [Bool.and_eq_true] at this
    rw [hV]; exact ⟨Nat.blt_eq.mp this.1, this.2⟩
end Go.Proofs.Ytgdhpgjfebinhaa.Ev
