/- Whole floats: sizes, and that they are whole. -/
import Derived.Test.YtipcoahafdolcaaEvw
import Derived.Laws.BitsLemmas
import Derived.Laws.BitsAllLaws
namespace Go.Proofs.Ytipcoahafdolcaa.Ev
set_option linter.unusedSimpArgs false
open Go Go.RowKit
set_option maxRecDepth 100000
def ab_t : Tr :=
  (.leaf (.float .f64 (.bin (.andNotK .u64) (.bin .maxI (.var 0) (.lit 0)) (.lit 9223372036854775808))))
theorem ab {b : Nat} {K : Int} (r1 : (-9007199254740992) ≤ K ∧ K ≤ 9007199254740992) (h0 : Rp b K) {Q : Value → Prop} (H :
  Q (.float .f64 (NOp.den (.andNotK .u64) (if (0 : Int) > (b : Int) then 0 else (b : Int)) 9223372036854775808 : Int).toNat)) :
    ∃ v, Q v ∧ ∀ w, Calls Try.prog 160 #[.float .f64 b] w fun e w' => e = .returned v ∧ Below w.heap.size w w' :=
  tree_at mixed names S0_ok (S := S0 Try.prog) (lf := 100000) (d := 60) (args := [(.float .f64 (.var 0))]) ab_t { ivs := [(1, (-9007199254740992), 9007199254740992)], whs := [(0, (.var 1), 9007199254740992)] } [(b : Int), K] [] 2 0 rfl rfl (by kernel_rfl) (by kernel_rfl) (by kernel_rfl)
    ⟨(fc r1 fz), (fc ⟨h0, wh_rng r1, by decide⟩ fz)⟩ H
def iw_t : Tr :=
  (.call 160 [(.float .f64 (.var 0))] (.float .f64 (.var 2)) 1 0
  (.ite (.fcmp .f64 .gtr (.var 2) (.lit 9218868437227405311))
  (.leaf (.bool (.lit false)))
  (.leaf (.bool (.fcmp .f64 .eql (.var 0) (.var 0))))))
theorem iw {b : Nat} {K : Int} (r1 : (-4503599627370496) ≤ K ∧ K ≤ 4503599627370496) (h0 : Rp b K) {Q : Value → Prop} (H :
  (∃ v2 : Int, (∀ w, Calls Try.prog 160 #[.float .f64 b] w fun e w' => e = .returned (.float .f64 (v2 : Int).toNat) ∧ Below w.heap.size w w') ∧
   ((COp.flo .f64 .gtr (v2 : Int).toNat 9218868437227405311 = true → Q (.bool (false))) ∧
   (COp.flo .f64 .gtr (v2 : Int).toNat 9218868437227405311 = false → Q (.bool (COp.flo .f64 .eql b b)))))) :
    ∃ v, Q v ∧ ∀ w, Calls Try.prog 159 #[.float .f64 b] w fun e w' => e = .returned v ∧ Below w.heap.size w w' :=
  tree_at mixed names S0_ok (S := S0 Try.prog) (lf := 100000) (d := 60) (args := [(.float .f64 (.var 0))]) iw_t { ivs := [(1, (-4503599627370496), 4503599627370496)], whs := [(0, (.var 1), 4503599627370496)] } [(b : Int), K] [] 2 0 rfl rfl (by kernel_rfl) (by kernel_rfl) (by kernel_rfl)
    ⟨(fc r1 fz), (fc ⟨h0, wh_rng r1, by decide⟩ fz)⟩ H
def ib_t : Tr :=
  (.ite (.icmp .eql (.bin .subI (.var 1) (.var 1)) (.lit 0))
  (.ite (.fcmp .f64 .geq (.var 0) (.lit 14069741636278059008))
   (.ite (.fcmp .f64 .leq (.var 0) (.lit 4846369599423283200))
    (.leaf (.bool (.fcmp .f64 .eql (.toF .f64 (.var 1)) (.var 0))))
    (.leaf (.bool (.lit true))))
   (.leaf (.bool (.lit true))))
  (.leaf (.bool (.lit false))))
theorem ib {b : Nat} {K : Int} (r1 : (-4503599627370496) ≤ K ∧ K ≤ 4503599627370496) (h0 : Rp b K) {Q : Value → Prop} (H :
  (((((K - K) : Int) == 0) = true → ((COp.flo .f64 .geq b 14069741636278059008 = true → ((COp.flo .f64 .leq b 4846369599423283200 = true → Q (.bool (COp.flo .f64 .eql (FloatKind.f64.nearest K) b))) ∧
     (COp.flo .f64 .leq b 4846369599423283200 = false → Q (.bool (true))))) ∧
    (COp.flo .f64 .geq b 14069741636278059008 = false → Q (.bool (true))))) ∧
   ((((K - K) : Int) == 0) = false → Q (.bool (false))))) :
    ∃ v, Q v ∧ ∀ w, Calls Try.prog 157 #[.float .f64 b] w fun e w' => e = .returned v ∧ Below w.heap.size w w' :=
  tree_at mixed names S0_ok (S := S0 Try.prog) (lf := 100000) (d := 60) (args := [(.float .f64 (.var 0))]) ib_t { ivs := [(1, (-4503599627370496), 4503599627370496)], whs := [(0, (.var 1), 4503599627370496)] } [(b : Int), K] [] 2 0 rfl rfl (by kernel_rfl) (by kernel_rfl) (by kernel_rfl)
    ⟨(fc r1 fz), (fc ⟨h0, wh_rng r1, by decide⟩ fz)⟩ H
theorem andNot_sign (b : Nat) (h : b < 18446744073709551616) : NOp.den (.andNotK .u64) (b : Int) 9223372036854775808 = ((b % 9223372036854775808 : Nat) : Int) := by
  have := u64_andNot_nat b 9223372036854775808 h (by decide)
  have e : b &&& (18446744073709551615 - 9223372036854775808) = b % 9223372036854775808 := Nat.and_two_pow_sub_one_eq_mod b 63
  rw [e] at this
  exact this
theorem abs_w (b : Nat) (k : Int) (h : Rp b k) (hk : InF k) (w : World) : Calls Try.prog 160 #[.float .f64 b] w fun e w' => e = .returned (.float .f64 (fi (k.natAbs : Int))) ∧ Below w.heap.size w w' := by
  refine one_val (ab hk h (Q := (· = _)) ?_) w
  congr 1
  rw [if_neg (by omega)]
  rw [andNot_sign b (rp_lt h hk), abs_rp h hk]
  rfl
theorem order_self {b : Nat} {k : Int} (h : Rp b k) (hk : InF k) : COp.flo .f64 .eql b b = true := by
  have : FloatKind.f64.format.order b b = some (compare k k) := order_rp h h hk hk
  simp [COp.flo, this, compare, compareOfLessAndEq]
theorem inF52 {k : Int} (h : k.natAbs ≤ 4503599627370496) : InF k := ⟨by omega, by omega⟩
theorem whole_w (b : Nat) (k : Int) (h : Rp b k) (hk : k.natAbs ≤ 4503599627370496) (w : World) : Calls Try.prog 159 #[.float .f64 b] w fun e w' => e = .returned (.bool true) ∧ Below w.heap.size w w' := by
  have ho : (FloatKind.f64.format.order (fi (k.natAbs : Int)) 9218868437227405311 == some .gt) = false := order_max (Rp_fi _) ⟨by omega, by omega⟩
  refine one_val (iw (by omega) h (Q := (· = _)) ⟨(fi (k.natAbs : Int) : Nat), fun w => abs_w b k h (inF52 hk) w, fun h' => ?_, fun _ => ?_⟩) w
  · exfalso
    rw [show COp.flo .f64 .gtr ((fi (k.natAbs : Int) : Nat) : Int).toNat 9218868437227405311 = (FloatKind.f64.format.order (fi (k.natAbs : Int)) 9218868437227405311 == some .gt) from rfl, ho] at h'
    cases h'
  · rw [order_self h (inF52 hk)]
theorem fi_self {b : Nat} {k : Int} (h : Rp b k) (hk : InF k) : COp.flo .f64 .eql (FloatKind.f64.nearest k) b = true := by
  have : FloatKind.f64.format.order (FloatKind.f64.nearest k) b = some (compare k k) := order_rp (Rp_fi k) h hk hk
  simp [COp.flo, this, compare, compareOfLessAndEq]
theorem base_w (b : Nat) (k : Int) (h : Rp b k) (hk : k.natAbs ≤ 4503599627370496) (w : World) : Calls Try.prog 157 #[.float .f64 b] w fun e w' => e = .returned (.bool true) ∧ Below w.heap.size w w' := by
  refine one_val (ib (by omega) h (Q := (· = _)) ⟨fun _ => ⟨fun _ => ⟨fun _ => ?_, fun _ => rfl⟩, fun _ => rfl⟩, fun h' => ?_⟩) w
  · rw [fi_self h (inF52 hk)]
  · simp at h'
def sumsL : List (FuncId × (Dom → List SV → Option SV)) := [(160, absS), (159, wholeS), (157, wholeS)]
theorem sumsL_ok {ρ : Env} : ∀ p ∈ sumsL, ∀ D : Dom, D.Holds ρ → ∀ args v, p.2 D args = some v → ∀ w, Calls Try.prog p.1 (denL ρ σ0 args).toArray w fun e w' => e = .returned (v.den ρ σ0) ∧ Below w.heap.size w w' := by
  intro p hp D hD args v hv w
  simp only [sumsL, List.mem_cons, List.not_mem_nil, or_false] at hp
  rcases hp with rfl | rfl | rfl
  · exact absS_ok abs_w hD hv w
  · exact wholeS_ok whole_w hD hv w
  · exact wholeS_ok base_w hD hv w
def S1 (P : Program) : Facts := { exts := extL P, extS := extSL, sums := sumsL }
theorem S1_ok (L : List Int) (B : List Bool) : (S1 Try.prog).Holds Try.prog (envL L B) := ⟨fz, fz, fz, fz, fz, sumsL_ok, extL_ok, extSL_ok, ⟨fz, fz⟩⟩
/-- A call with literals. -/
theorem lit_call1 {f : FuncId} {args : List SV} {v : SV} (hb : ((Try.prog.funcs[f]?).bind (·.body)).isSome = true) (h : (startB {} 0 0 args && Tr.chk Try.prog (S1 Try.prog) 100000 60 (.leaf v) (.fn f args) (Ctx.start {}) 0 0) = true) (w : World) :
    Calls Try.prog f (denL (envL [] []) σ0 args).toArray w fun e w' => e = .returned (v.den (envL [] []) σ0) ∧ Below w.heap.size w w' := by
  simp only [Bool.and_eq_true] at h
  exact one_val (tree_at mixed names S1_ok (.leaf v) {} [] [] 0 0 rfl rfl hb h.1 h.2 ⟨fz, fz⟩ (Q := (· = _)) rfl) w
end Go.Proofs.Ytipcoahafdolcaa.Ev
