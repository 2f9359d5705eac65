/- The machine with rows over the program: sizes and whole numbers. -/
import Derived.Test.YtafnplkablkepaaFvw
import Derived.Laws.BitsLemmas
import Derived.Laws.BitsAllLaws
namespace Go.Proofs.Ytafnplkablkepaa.Ev
set_option linter.unusedSimpArgs false
open Go Go.RowKit
set_option linter.unusedVariables false
set_option maxRecDepth 100000
def math_Abs_s : Sig := ⟨67, ⟨1, 0, 0⟩, ⟨1, 0, 0⟩, [(.float .f64 (.var 0))], [], (.float .f64 (.var 1)), []⟩
def whole_IsWhole_s : Sig := ⟨65, ⟨1, 0, 0⟩, ⟨0, 1, 0⟩, [(.float .f64 (.var 0))], [], (.bool (.var 0)), []⟩
def etalonbase_IsWhole_s : Sig := ⟨38, ⟨1, 0, 0⟩, ⟨0, 1, 0⟩, [(.float .f64 (.var 0))], [], (.bool (.var 0)), []⟩

def ab_t : Tr :=
  (.whole 0 9007199254740992 (.rng 1 (-9007199254740992) 9007199254740992 (.ret ⟨[(.bin (.andNotK .u64) (.bin .maxI (.var 0) (.lit 0)) (.lit 9223372036854775808))], [], []⟩ [])))
theorem ab {x0 : Int} {R : Int → Prop}
  (H : (∃ v1 : Int, (Rp (x0 : Int).toNat v1 ∧ v1.natAbs ≤ 9007199254740992) ∧ (((-9007199254740992) ≤ v1 ∧ v1 ≤ 9007199254740992) ∧ R ((NOp.den (.andNotK .u64) (if (0 : Int) > x0 then 0 else x0) 9223372036854775808))))) :
    ∃ v0 : Int, R v0 ∧ Spec Try.prog math_Abs_s ⟨[x0], [], []⟩ [v0] [] [] :=
  Eq.mp (by kernel_rfl) (exV_of (K := fun d => app3 math_Abs_s.out R d ∧ Spec Try.prog math_Abs_s ⟨[x0], [], []⟩ d.1 d.2.1 d.2.2) (tree_at mixed names S0_ok (S := S0 Try.prog) (lf := 100000) (d := 60) math_Abs_s ab_t { ivs := [], aivs := [] } ⟨[x0], [], []⟩ rfl (by kernel_rfl) (by kernel_rfl) (by kernel_rfl) ⟨fz, fz, fz, fz⟩ (R := fun d => app3 math_Abs_s.out R d) (Eq.mp (by kernel_rfl) H)))

def iw_t : Tr :=
  (.whole 0 4503599627370496 (.rng 1 (-4503599627370496) 4503599627370496 (.call math_Abs_s ⟨[(.var 0)], [], []⟩ ⟨[(.var 0), (.var 2)], [], []⟩ ⟨67, [(.float .f64 (.var 0))], [], [], (.float .f64 (.var 2)), []⟩
  (.ite (.fcmp .f64 .gtr (.var 2) (.lit 9218868437227405311))
  (.ret ⟨[], [(.lit false)], []⟩ [])
  (.ret ⟨[], [(.fcmp .f64 .eql (.var 0) (.var 0))], []⟩ [])))))
theorem iw {x0 : Int} {R : Bool → Prop}
  (H : (∃ v1 : Int, (Rp (x0 : Int).toNat v1 ∧ v1.natAbs ≤ 4503599627370496) ∧ (((-4503599627370496) ≤ v1 ∧ v1 ≤ 4503599627370496) ∧ (∃ v2 : Int, Spec Try.prog math_Abs_s ⟨[x0], [], []⟩ [v2] [] [] ∧
   ((COp.flo .f64 .gtr (v2 : Int).toNat (9218868437227405311 : Int).toNat = true → R (false)) ∧
   (COp.flo .f64 .gtr (v2 : Int).toNat (9218868437227405311 : Int).toNat = false → R (COp.flo .f64 .eql (x0 : Int).toNat (x0 : Int).toNat))))))) :
    ∃ u0 : Bool, R u0 ∧ Spec Try.prog whole_IsWhole_s ⟨[x0], [], []⟩ [] [u0] [] :=
  Eq.mp (by kernel_rfl) (exV_of (K := fun d => app3 whole_IsWhole_s.out R d ∧ Spec Try.prog whole_IsWhole_s ⟨[x0], [], []⟩ d.1 d.2.1 d.2.2) (tree_at mixed names S0_ok (S := S0 Try.prog) (lf := 100000) (d := 60) whole_IsWhole_s iw_t { ivs := [], aivs := [] } ⟨[x0], [], []⟩ rfl (by kernel_rfl) (by kernel_rfl) (by kernel_rfl) ⟨fz, fz, fz, fz⟩ (R := fun d => app3 whole_IsWhole_s.out R d) (Eq.mp (by kernel_rfl) H)))

def ib_t : Tr :=
  (.whole 0 4503599627370496 (.rng 1 (-4503599627370496) 4503599627370496 (.fact (.icmp .eql (.bin .subI (.var 1) (.var 1)) (.lit 0)) true (.ite (.fcmp .f64 .geq (.var 0) (.lit 14069741636278059008))
  (.ite (.fcmp .f64 .leq (.var 0) (.lit 4846369599423283200))
   (.ret ⟨[], [(.fcmp .f64 .eql (.toF .f64 (.var 1)) (.var 0))], []⟩ [])
   (.ret ⟨[], [(.lit true)], []⟩ []))
  (.ret ⟨[], [(.lit true)], []⟩ [])))))
theorem ib {x0 : Int} {R : Bool → Prop}
  (H : (∃ v1 : Int, (Rp (x0 : Int).toNat v1 ∧ v1.natAbs ≤ 4503599627370496) ∧ (((-4503599627370496) ≤ v1 ∧ v1 ≤ 4503599627370496) ∧ ((((v1 - v1) : Int) == 0) = true ∧ ((COp.flo .f64 .geq (x0 : Int).toNat (14069741636278059008 : Int).toNat = true → ((COp.flo .f64 .leq (x0 : Int).toNat (4846369599423283200 : Int).toNat = true → R (COp.flo .f64 .eql (((FloatKind.f64.nearest v1 : Nat) : Int) : Int).toNat (x0 : Int).toNat)) ∧
    (COp.flo .f64 .leq (x0 : Int).toNat (4846369599423283200 : Int).toNat = false → R (true)))) ∧
   (COp.flo .f64 .geq (x0 : Int).toNat (14069741636278059008 : Int).toNat = false → R (true))))))) :
    ∃ u0 : Bool, R u0 ∧ Spec Try.prog etalonbase_IsWhole_s ⟨[x0], [], []⟩ [] [u0] [] :=
  Eq.mp (by kernel_rfl) (exV_of (K := fun d => app3 etalonbase_IsWhole_s.out R d ∧ Spec Try.prog etalonbase_IsWhole_s ⟨[x0], [], []⟩ d.1 d.2.1 d.2.2) (tree_at mixed names S0_ok (S := S0 Try.prog) (lf := 100000) (d := 60) etalonbase_IsWhole_s ib_t { ivs := [], aivs := [] } ⟨[x0], [], []⟩ rfl (by kernel_rfl) (by kernel_rfl) (by kernel_rfl) ⟨fz, fz, fz, fz⟩ (R := fun d => app3 etalonbase_IsWhole_s.out R d) (Eq.mp (by kernel_rfl) H)))

theorem andNot_sign (b : Nat) (h : b < 18446744073709551616) : NOp.den (.andNotK .u64) (b : Int) 9223372036854775808 = ((b % 9223372036854775808 : Nat) : Int) := by

  have := u64_andNot_nat b 9223372036854775808 h (by decide)

  have e : b &&& (18446744073709551615 - 9223372036854775808) = b % 9223372036854775808 := Nat.and_two_pow_sub_one_eq_mod b 63

  rw [e] at this

  exact this

theorem abs_s (b : Nat) (k : Int) (h : Rp b k) (hk : InF k) : Spec Try.prog math_Abs_s ⟨[b], [], []⟩ [(fi (k.natAbs : Int) : Nat)] [] [] := by

  obtain ⟨v, hv, hs⟩ := ab (x0 := (b : Int)) (R := fun v => v = (fi (k.natAbs : Int) : Nat)) ⟨k, ⟨by simpa using h, by have := hk.1; have := hk.2; omega⟩, ⟨hk.1, hk.2⟩, by

    rw [if_neg (by omega)]

    rw [andNot_sign b (rp_lt h hk), abs_rp h hk]⟩

  exact hv ▸ hs

theorem abs_w (b : Nat) (k : Int) (h : Rp b k) (hk : InF k) (w : World) : Calls Try.prog 67 #[.float .f64 b] w fun e w' => e = .returned (.float .f64 (fi (k.natAbs : Int))) ∧ Below w.heap.size w w' := by

  have := spec_calls (abs_s b k h hk) rfl rfl rfl w

  exact this

theorem order_self {b : Nat} {k : Int} (h : Rp b k) (hk : InF k) : COp.flo .f64 .eql b b = true := by

  have : FloatKind.f64.format.order b b = some (compare k k) := order_rp h h hk hk

  simp [COp.flo, this, compare, compareOfLessAndEq]

theorem inF52 {k : Int} (h : k.natAbs ≤ 4503599627370496) : InF k := ⟨by omega, by omega⟩

theorem whole_s (b : Nat) (k : Int) (h : Rp b k) (hk : k.natAbs ≤ 4503599627370496) : Spec Try.prog whole_IsWhole_s ⟨[b], [], []⟩ [] [true] [] := by

  have ho : (FloatKind.f64.format.order (fi (k.natAbs : Int)) 9218868437227405311 == some .gt) = false := order_max (Rp_fi _) ⟨by omega, by omega⟩

  obtain ⟨v, hv, hs⟩ := iw (x0 := (b : Int)) (R := fun v => v = true) ⟨k, ⟨by simpa using h, hk⟩, by omega, (fi (k.natAbs : Int) : Nat), abs_s b k h (inF52 hk), ⟨fun h' => (by

    rw [show COp.flo .f64 .gtr ((fi (k.natAbs : Int) : Nat) : Int).toNat (9218868437227405311 : Int).toNat = (FloatKind.f64.format.order (fi (k.natAbs : Int)) 9218868437227405311 == some .gt) from rfl, ho] at h'

    cases h'), fun _ => order_self h (inF52 hk)⟩⟩

  exact hv ▸ hs

theorem whole_w (b : Nat) (k : Int) (h : Rp b k) (hk : k.natAbs ≤ 4503599627370496) (w : World) : Calls Try.prog 65 #[.float .f64 b] w fun e w' => e = .returned (.bool true) ∧ Below w.heap.size w w' :=

  spec_calls (whole_s b k h hk) rfl rfl rfl w

theorem fi_self {b : Nat} {k : Int} (h : Rp b k) (hk : InF k) : COp.flo .f64 .eql (FloatKind.f64.nearest k) b = true := by

  have : FloatKind.f64.format.order (FloatKind.f64.nearest k) b = some (compare k k) := order_rp (Rp_fi k) h hk hk

  simp [COp.flo, this, compare, compareOfLessAndEq]

theorem base_s (b : Nat) (k : Int) (h : Rp b k) (hk : k.natAbs ≤ 4503599627370496) : Spec Try.prog etalonbase_IsWhole_s ⟨[b], [], []⟩ [] [true] [] := by

  obtain ⟨v, hv, hs⟩ := ib (x0 := (b : Int)) (R := fun v => v = true) ⟨k, ⟨by simpa using h, hk⟩, by omega, by simp, ⟨fun _ => ⟨fun _ => fi_self h (inF52 hk), fun _ => rfl⟩, fun _ => rfl⟩⟩

  exact hv ▸ hs

theorem base_w (b : Nat) (k : Int) (h : Rp b k) (hk : k.natAbs ≤ 4503599627370496) (w : World) : Calls Try.prog 38 #[.float .f64 b] w fun e w' => e = .returned (.bool true) ∧ Below w.heap.size w w' :=

  spec_calls (base_s b k h hk) rfl rfl rfl w

def sumsL : List (FuncId × (Dom → List SV → Option SV)) := [(67, absS), (65, wholeS), (38, wholeS)]

theorem sumsL_ok {ρ : Env} : ∀ p ∈ sumsL, ∀ D : Dom, D.Holds ρ → ∀ args v, p.2 D args = some v → ∀ w, Calls Try.prog p.1 (denL ρ σ0 args).toArray w fun e w' => e = .returned (v.den ρ σ0) ∧ Below w.heap.size w w' := by

  intro p hp D hD args v hv w

  simp only [sumsL, List.mem_cons, List.not_mem_nil, or_false] at hp

  rcases hp with rfl | rfl | rfl

  · exact absS_ok abs_w hD hv w

  · exact wholeS_ok whole_w hD hv w

  · exact wholeS_ok base_w hD hv w

def S1 (P : Program) : Facts := { exts := extL P, extS := extSL, sums := sumsL }

theorem S1_ok (V : Vs) : (S1 Try.prog).Holds Try.prog (envV V) := ⟨fz, fz, fz, fz, fz, sumsL_ok, extL_ok, extSL_ok, ⟨fz, fz, fz, fz⟩, fz, fz⟩

/-- A call with literals. -/

theorem lit_call1 {F : Sig} (x : X3) (hz : F.inp = ⟨0, 0, 0⟩) (hb : ((Try.prog.funcs[F.f]?).bind (·.body)).isSome = true) (h0 : startB {} F = true) (h : Tr.chk Try.prog (S1 Try.prog) 100000 60 (.ret x []) (.fn F) {} F.inp = true) :

    ∃ d : D3, d.sz = F.out ∧ d = x.den ⟨[], [], []⟩ ∧ Spec Try.prog F ⟨[], [], []⟩ d.1 d.2.1 d.2.2 :=

  tree_at mixed names S1_ok F (.ret x []) {} ⟨[], [], []⟩ (by rw [hz]; rfl) hb h0 h ⟨fz, fz, fz, fz⟩ (R := fun d => d = x.den ⟨[], [], []⟩) rfl

end Go.Proofs.Ytafnplkablkepaa.Ev
