/- The contracts of the centres of package ball: complex numbers whose parts are whole. -/
import Derived.Test.YthkooiopiaakbaaRoots
import Derived.Laws.ComplexArith
import Derived.Laws.BitsAllLaws
import Derived.Laws.BitsLemmas
namespace Go.Proofs.Ythkooiopiaakbaa
open Go.RowKit Go.Lib

/-- A call that makes memory of its own, and turns nothing that was there. -/
def Mem (v : Value) (w : World) (e : Ending) (w' : World) : Prop := e = .returned v ∧ Below w.heap.size w w'

theorem bcell {W w1 : World} (hb : Below W.heap.size W w1) : (∀ b o, b < W.heap.size → w1.cell? ⟨b, o, none⟩ = W.cell? ⟨b, o, none⟩) ∧ (∀ b o, b < W.heap.size → w1.frozen? ⟨b, o, none⟩ = W.frozen? ⟨b, o, none⟩) :=
  ⟨fun b o h => hb.cell (p := ⟨b, o, none⟩) h, fun b o h => hb.frozen (p := ⟨b, o, none⟩) h⟩

/-- Block b of a world holds these cells. -/
def At (w : World) (b : Nat) (c : Array Value) : Prop := ∃ t, w.heap[b]? = some (.cells c t (0, 0))
theorem At.cell {w : World} {b : Nat} {c : Array Value} (h : At w b c) (o : Nat) : w.cell? ⟨b, o, none⟩ = c[o]? := by
  obtain ⟨t, h⟩ := h; simp [World.cell?, h]
theorem At.frozen {w : World} {b : Nat} {c : Array Value} (h : At w b c) (o : Nat) : w.frozen? ⟨b, o, none⟩ = false := by
  obtain ⟨t, h⟩ := h; simp [World.frozen?, h]
theorem At.lt {w : World} {b : Nat} {c : Array Value} (h : At w b c) : b < w.heap.size := by
  obtain ⟨t, h⟩ := h; exact (Array.getElem?_eq_some_iff.1 h).1
theorem At.below {w w1 : World} {b : Nat} {c : Array Value} (h : At w b c) (hb : Below w.heap.size w w1) : At w1 b c := by
  have hl := h.lt
  obtain ⟨t, h⟩ := h; exact ⟨t, by rw [hb.block b hl]; exact h⟩
theorem At.new (w : World) (c : Array Value) (t : TypeId) : At (w.alloc (.cells c t)) w.heap.size c :=
  ⟨t, by show (w.heap.push _)[w.heap.size]? = _; simp⟩
theorem At.new' (w : World) (c : Array Value) (t : TypeId) {n : Nat} (hn : n = w.heap.size) : At (w.alloc (.cells c t)) n c := by subst hn; exact At.new w c t
theorem At.old {w : World} {b : Nat} {c : Array Value} (h : At w b c) (o : Obj) : At (w.alloc o) b c := by
  have hl := h.lt
  obtain ⟨t, h⟩ := h; exact ⟨t, by rw [Below.heap_alloc w o b hl]; exact h⟩
theorem At.drewN {w : World} {b : Nat} {c : Array Value} (h : At w b c) (n : Nat) : At (w.drewN n) b c := h
theorem At.other {w : World} {b : Nat} {c : Array Value} (h : At w b c) {a : Addr} (ha : b ≠ a.block) (v : Value) : At (w.setCell a v) b c := by
  obtain ⟨t, h⟩ := h; exact ⟨t, by rw [Below.heap_setCell w a v b ha]; exact h⟩

theorem below_drewN {B : Nat} {a w : World} (h : Below B a w) (n : Nat) : Below B a (w.drewN n) := ⟨h.os, h.tape, h.output, h.size, h.block⟩

theorem run_store_float (P : Program) (w : World) (a : Addr) (m : Mode) (k : FloatKind) (b : Nat) : (store a (.float k b) m).run P w = stored P w a (.float k b) m := run_store P w a _ m rfl
theorem run_store_complex (P : Program) (w : World) (a : Addr) (m : Mode) (k : FloatKind) (x y : Nat) : (store a (.complex k x y) m).run P w = stored P w a (.complex k x y) m := run_store P w a _ m rfl
attribute [local go_sem] run_store_float run_store_complex

set_option maxHeartbeats 400000 in
theorem centreAt_any (x y : Int) (w : World) : Calls Try.prog 74 #[.int .i64 x, .int .i64 y] w fun e w' => e = .returned (.complex .f64 (fi x) (fi y)) ∧ w = w' := by
  go_enter Try.func74, Try.ntmps74
  go_wp2
  go_ret
  exact ⟨rfl, rfl⟩

/-- A centre's bits hold these whole numbers. -/
def Cp (a b : Nat) (x y : Int) : Prop := Rp a x ∧ Rp b y

def Sm (M x : Int) : Prop := -M ≤ x ∧ x ≤ M

theorem plus_any {a b c d : Nat} {x y u v : Int} (h : Cp a b x y) (g : Cp c d u v) (hx : InF x) (hy : InF y) (hu : InF u) (hv : InF v) (h1 : InF (x + u)) (h2 : InF (y + v)) :
    ∃ r s, Cp r s (x + u) (y + v) ∧ ∀ w, Calls Try.prog 86 #[.complex .f64 a b, .complex .f64 c d] w fun e w' => e = .returned (.complex .f64 r s) ∧ w = w' := by
  obtain ⟨r, er, hr⟩ := add_rp h.1 g.1 hx hu h1
  obtain ⟨s, es, hs⟩ := add_rp h.2 g.2 hy hv h2
  refine ⟨r, s, ⟨hr, hs⟩, fun w => ?_⟩
  have hsum := fun w => run_complex_sum (P := Try.prog) w .add (Or.inl rfl) 92 .f64 a b c d r s (by unfold cSumBits; rw [er, es]; rfl)
  clear er es hr hs h g h1 h2
  go_enter Try.func86, Try.ntmps86
  go_wp2
  go_ret
  exact ⟨rfl, rfl⟩

theorem minus_any {a b c d : Nat} {x y u v : Int} (h : Cp a b x y) (g : Cp c d u v) (hx : InF x) (hy : InF y) (hu : InF u) (hv : InF v) (h1 : InF (x - u)) (h2 : InF (y - v)) :
    ∃ r s, Cp r s (x - u) (y - v) ∧ ∀ w, Calls Try.prog 88 #[.complex .f64 a b, .complex .f64 c d] w fun e w' => e = .returned (.complex .f64 r s) ∧ w = w' := by
  obtain ⟨r, er, hr⟩ := sub_rp h.1 g.1 hx hu h1
  obtain ⟨s, es, hs⟩ := sub_rp h.2 g.2 hy hv h2
  refine ⟨r, s, ⟨hr, hs⟩, fun w => ?_⟩
  have hsum := fun w => run_complex_sum (P := Try.prog) w .sub (Or.inr rfl) 92 .f64 a b c d r s (by unfold cSumBits; rw [er, es]; rfl)
  clear er es hr hs h g h1 h2
  go_enter Try.func88, Try.ntmps88
  go_wp2
  go_ret
  exact ⟨rfl, rfl⟩

theorem times_any {a b c d : Nat} {x y u v : Int} (h : Cp a b x y) (g : Cp c d u v) (hx : InF x) (hy : InF y) (hu : InF u) (hv : InF v)
    (p1 : InF (x * u)) (p2 : InF (y * v)) (p3 : InF (x * v)) (p4 : InF (y * u)) (h1 : InF (x * u - y * v)) (h2 : InF (x * v + y * u)) :
    ∃ r s, Cp r s (x * u - y * v) (x * v + y * u) ∧ ∀ w, Calls Try.prog 94 #[.complex .f64 a b, .complex .f64 c d] w fun e w' => e = .returned (.complex .f64 r s) ∧ w = w' := by
  obtain ⟨ac, e1, r1⟩ := mul_rp h.1 g.1 hx hu p1
  obtain ⟨bd, e2, r2⟩ := mul_rp h.2 g.2 hy hv p2
  obtain ⟨ad, e3, r3⟩ := mul_rp h.1 g.2 hx hv p3
  obtain ⟨bc, e4, r4⟩ := mul_rp h.2 g.1 hy hu p4
  obtain ⟨r, er, hr⟩ := sub_rp r1 r2 p1 p2 h1
  obtain ⟨s, es, hs⟩ := add_rp r3 r4 p3 p4 h2
  refine ⟨r, s, ⟨hr, hs⟩, fun w => ?_⟩
  have hsum := fun w => run_complex_mul (P := Try.prog) w 92 a b c d r s (by unfold cMulBits; rw [e1, e2, e3, e4]; simp only [Option.bind_some]; rw [er, es]; rfl)
  clear e1 e2 e3 e4 r1 r2 r3 r4 er es hr hs h g h1 h2 p1 p2 p3 p4
  go_enter Try.func94, Try.ntmps94
  go_wp2
  go_ret
  exact ⟨rfl, rfl⟩

set_option maxHeartbeats 400000 in
theorem parts_any {a b : Nat} {x y : Int} (h : Cp a b x y) (hx : InF x) (hy : InF y) (w : World) :
    Calls Try.prog 110 #[.complex .f64 a b] w (Mem (.agg #[.int .i64 x, .int .i64 y]) w) := by
  have c1 := fun w => run_convert_float_int (P := Try.prog) w 117 3 .f64 .i64 a x (by rw [Try.underlying117]; rfl) Try.underlying3 (int_rp h.1 hx)
  have c2 := fun w => run_convert_float_int (P := Try.prog) w 117 3 .f64 .i64 b y (by rw [Try.underlying117]; rfl) Try.underlying3 (int_rp h.2 hy)
  clear h
  go_enter Try.func110, Try.ntmps110
  go_wp2
  refine bodyPost_ret (v := .agg #[.int .i64 x, .int .i64 y]) (by simp [results, Try.results110, go_sem]) rfl ⟨rfl, ?_⟩
  exact (Below.refl _ _).alloc (Nat.le_refl _) _

def sq2 (x y : Int) : Int := x * x + y * y

theorem sq_bd {x M : Int} (h : Sm M x) : 0 ≤ x * x ∧ x * x ≤ M * M := by
  obtain ⟨h1, h2⟩ := h
  by_cases hx : 0 ≤ x
  · exact ⟨Int.mul_nonneg hx hx, Int.mul_le_mul h2 h2 hx (by omega)⟩
  · have e : x * x = (-x) * (-x) := by rw [Int.neg_mul, Int.mul_neg, Int.neg_neg]
    rw [e]
    exact ⟨Int.mul_nonneg (by omega) (by omega), Int.mul_le_mul (by omega) (by omega) (by omega) (by omega)⟩

set_option maxHeartbeats 400000 in
theorem square_any {a b : Nat} {x y : Int} (h : Cp a b x y) (hx : Sm 1073741824 x) (hy : Sm 1073741824 y) (w : World) :
    Calls Try.prog 106 #[.complex .f64 a b] w (Mem (.int .i64 (sq2 x y)) w) := by
  obtain ⟨x0, x1⟩ := sq_bd hx
  obtain ⟨y0, y1⟩ := sq_bd hy
  have hp := parts_any h ⟨by have := hx.1; omega, by have := hx.2; omega⟩ ⟨by have := hy.1; omega, by have := hy.2; omega⟩ w
  have HP := Lib.hid hp
  clear hp h hx hy
  have i0 : ∀ w, (Instr.index 58 (.agg #[.int .i64 x, .int .i64 y]) (.int .i64 0)).run Try.prog w = .ok (.int .i64 x) w := fun _ => by kernel_rfl
  have i1 : ∀ w, (Instr.index 58 (.agg #[.int .i64 x, .int .i64 y]) (.int .i64 1)).run Try.prog w = .ok (.int .i64 y) w := fun _ => by kernel_rfl
  go_enter Try.func106, Try.ntmps106
  go_wp2_with fail
  refine HP.out.mono ?_
  rintro e w' ⟨rfl, hb⟩
  go_wp2_with fail
  refine wp_loop_rounds 3 ?_
  rw [rounds_succ]
  go_wp2_with fail
  rw [rounds_succ]
  go_wp2_with fail
  rw [rounds_succ]
  go_wp2_with fail
  go_ret
  exact ⟨rfl, hb⟩

/-- The size of a centre, rounded down and up. -/
def dn (x y : Int) : Int := rti (sq2 x y)
def upw (x y : Int) : Int := rtu (sq2 x y)

theorem sq2_bd {x y M : Int} (hx : Sm M x) (hy : Sm M y) : 0 ≤ sq2 x y ∧ sq2 x y ≤ 2 * (M * M) := by
  have := sq_bd hx
  have := sq_bd hy
  unfold sq2; omega

set_option maxHeartbeats 400000 in
theorem down_any {a b : Nat} {x y : Int} (h : Cp a b x y) (hx : Sm 134217728 x) (hy : Sm 134217728 y) (w : World) :
    Calls Try.prog 105 #[.complex .f64 a b] w (Mem (.int .i64 (dn x y)) w) := by
  have hs := sq2_bd hx hy
  have HP := Lib.hid (square_any h ⟨by have := hx.1; omega, by have := hx.2; omega⟩ ⟨by have := hy.1; omega, by have := hy.2; omega⟩ w)
  have HR := Lib.hid (fun w => rootDown_any (sq2 x y) hs.1 (by omega) w)
  clear h hx hy hs
  go_enter Try.func105, Try.ntmps105
  go_wp2_with fail
  refine HP.out.mono ?_
  rintro e w' ⟨rfl, hb⟩
  go_wp2_with fail
  refine (HR.out _).mono ?_
  rintro e w' ⟨rfl, n, rfl⟩
  go_wp2_with fail
  go_ret
  exact ⟨rfl, below_drewN hb n⟩

set_option maxHeartbeats 400000 in
theorem up_any {a b : Nat} {x y : Int} (h : Cp a b x y) (hx : Sm 134217728 x) (hy : Sm 134217728 y) (w : World) :
    Calls Try.prog 99 #[.complex .f64 a b] w (Mem (.int .i64 (upw x y)) w) := by
  have hs := sq2_bd hx hy
  have HP := Lib.hid (square_any h ⟨by have := hx.1; omega, by have := hx.2; omega⟩ ⟨by have := hy.1; omega, by have := hy.2; omega⟩ w)
  have HR := Lib.hid (fun w => rootUp_any (sq2 x y) hs.1 (by omega) w)
  clear h hx hy hs
  go_enter Try.func99, Try.ntmps99
  go_wp2_with fail
  refine HP.out.mono ?_
  rintro e w' ⟨rfl, hb⟩
  go_wp2_with fail
  refine (HR.out _).mono ?_
  rintro e w' ⟨rfl, n, rfl⟩
  go_wp2_with fail
  go_ret
  exact ⟨rfl, below_drewN hb n⟩

theorem mirrored_any {a b : Nat} {x y : Int} (h : Cp a b x y) (hy : InF y) :
    ∃ s, Cp a s x (-y) ∧ ∀ w, Calls Try.prog 91 #[.complex .f64 a b] w fun e w' => e = .returned (.complex .f64 a s) ∧ w = w' := by
  refine ⟨b ^^^ 9223372036854775808, ⟨h.1, neg_rp h.2 hy⟩, fun w => ?_⟩
  have hn : Op.unary .neg (.float .f64 b) = pure (.float .f64 (b ^^^ 9223372036854775808)) := rfl
  clear h
  go_enter Try.func91, Try.ntmps91
  go_wp2
  go_ret
  exact ⟨rfl, rfl⟩

set_option maxHeartbeats 400000 in
theorem near_any {a b c d : Nat} {x y u v r : Int} (h : Cp a b x y) (g : Cp c d u v) (hx : Sm 268435456 x) (hy : Sm 268435456 y) (hu : Sm 268435456 u) (hv : Sm 268435456 v) (hr : Sm 268435456 r) (w : World) :
    Calls Try.prog 120 #[.complex .f64 a b, .complex .f64 c d, .int .i64 r] w (Mem (.bool (decide (sq2 (x - u) (y - v) ≤ r * r))) w) := by
  have inF : ∀ {z : Int}, Sm 268435456 z → InF z := fun h => ⟨by have := h.1; omega, by have := h.2; omega⟩
  obtain ⟨p, q, hpq, hm⟩ := minus_any h g (inF hx) (inF hy) (inF hu) (inF hv) ⟨by have := hx.1; have := hu.2; omega, by have := hx.2; have := hu.1; omega⟩ ⟨by have := hy.1; have := hv.2; omega, by have := hy.2; have := hv.1; omega⟩
  have HM := Lib.hid hm
  have HP := Lib.hid (fun w => square_any hpq ⟨by have := hx.1; have := hu.2; omega, by have := hx.2; have := hu.1; omega⟩ ⟨by have := hy.1; have := hv.2; omega, by have := hy.2; have := hv.1; omega⟩ w)
  have r2 := sq_bd hr
  clear hm hpq h g hx hy hu hv hr inF
  go_enter Try.func120, Try.ntmps120
  go_wp2_with fail
  refine (HM.out _).mono ?_
  rintro e w' ⟨rfl, rfl⟩
  go_wp2_with fail
  refine (HP.out _).mono ?_
  rintro e w' ⟨rfl, hb⟩
  go_wp2_with fail
  go_ret
  exact ⟨by simp, hb⟩

/-! The same with the world written out: one new block. -/
def Made (v : Value) (x y : Int) (w : World) (e : Ending) (w' : World) : Prop := e = .returned v ∧ ∃ n, w' = (w.alloc (.cells #[.int .i64 x, .int .i64 y] 58)).drewN n

set_option maxHeartbeats 400000 in
theorem parts_mk {a b : Nat} {x y : Int} (h : Cp a b x y) (hx : InF x) (hy : InF y) (w : World) :
    Calls Try.prog 110 #[.complex .f64 a b] w fun e w' => e = .returned (.agg #[.int .i64 x, .int .i64 y]) ∧ w' = w.alloc (.cells #[.int .i64 x, .int .i64 y] 58) := by
  have c1 := fun w => run_convert_float_int (P := Try.prog) w 117 3 .f64 .i64 a x (by rw [Try.underlying117]; rfl) Try.underlying3 (int_rp h.1 hx)
  have c2 := fun w => run_convert_float_int (P := Try.prog) w 117 3 .f64 .i64 b y (by rw [Try.underlying117]; rfl) Try.underlying3 (int_rp h.2 hy)
  clear h
  go_enter Try.func110, Try.ntmps110
  go_wp2
  exact bodyPost_ret (v := .agg #[.int .i64 x, .int .i64 y]) (by simp [results, Try.results110, go_sem]) rfl ⟨rfl, rfl⟩

set_option maxHeartbeats 400000 in
theorem square_mk {a b : Nat} {x y : Int} (h : Cp a b x y) (hx : Sm 1073741824 x) (hy : Sm 1073741824 y) (w : World) :
    Calls Try.prog 106 #[.complex .f64 a b] w fun e w' => e = .returned (.int .i64 (sq2 x y)) ∧ w' = w.alloc (.cells #[.int .i64 x, .int .i64 y] 58) := by
  obtain ⟨x0, x1⟩ := sq_bd hx
  obtain ⟨y0, y1⟩ := sq_bd hy
  have HP := Lib.hid (parts_mk h ⟨by have := hx.1; omega, by have := hx.2; omega⟩ ⟨by have := hy.1; omega, by have := hy.2; omega⟩ w)
  clear h hx hy
  have i0 : ∀ w, (Instr.index 58 (.agg #[.int .i64 x, .int .i64 y]) (.int .i64 0)).run Try.prog w = .ok (.int .i64 x) w := fun _ => by kernel_rfl
  have i1 : ∀ w, (Instr.index 58 (.agg #[.int .i64 x, .int .i64 y]) (.int .i64 1)).run Try.prog w = .ok (.int .i64 y) w := fun _ => by kernel_rfl
  go_enter Try.func106, Try.ntmps106
  go_wp2_with fail
  refine HP.out.mono ?_
  rintro e w' ⟨rfl, rfl⟩
  go_wp2_with fail
  refine wp_loop_rounds 3 ?_
  rw [rounds_succ]
  go_wp2_with fail
  rw [rounds_succ]
  go_wp2_with fail
  rw [rounds_succ]
  go_wp2_with fail
  go_ret
  exact ⟨rfl, rfl⟩

set_option maxHeartbeats 400000 in
theorem down_mk {a b : Nat} {x y : Int} (h : Cp a b x y) (hx : Sm 134217728 x) (hy : Sm 134217728 y) (w : World) :
    Calls Try.prog 105 #[.complex .f64 a b] w (Made (.int .i64 (dn x y)) x y w) := by
  have hs := sq2_bd hx hy
  have HP := Lib.hid (square_mk h ⟨by have := hx.1; omega, by have := hx.2; omega⟩ ⟨by have := hy.1; omega, by have := hy.2; omega⟩ w)
  have HR := Lib.hid (fun w => rootDown_any (sq2 x y) hs.1 (by omega) w)
  clear h hx hy hs
  go_enter Try.func105, Try.ntmps105
  go_wp2_with fail
  refine HP.out.mono ?_
  rintro e w' ⟨rfl, rfl⟩
  go_wp2_with fail
  refine (HR.out _).mono ?_
  rintro e w' ⟨rfl, n, rfl⟩
  go_wp2_with fail
  go_ret
  exact ⟨rfl, n, rfl⟩

set_option maxHeartbeats 400000 in
theorem up_mk {a b : Nat} {x y : Int} (h : Cp a b x y) (hx : Sm 134217728 x) (hy : Sm 134217728 y) (w : World) :
    Calls Try.prog 99 #[.complex .f64 a b] w (Made (.int .i64 (upw x y)) x y w) := by
  have hs := sq2_bd hx hy
  have HP := Lib.hid (square_mk h ⟨by have := hx.1; omega, by have := hx.2; omega⟩ ⟨by have := hy.1; omega, by have := hy.2; omega⟩ w)
  have HR := Lib.hid (fun w => rootUp_any (sq2 x y) hs.1 (by omega) w)
  clear h hx hy hs
  go_enter Try.func99, Try.ntmps99
  go_wp2_with fail
  refine HP.out.mono ?_
  rintro e w' ⟨rfl, rfl⟩
  go_wp2_with fail
  refine (HR.out _).mono ?_
  rintro e w' ⟨rfl, n, rfl⟩
  go_wp2_with fail
  go_ret
  exact ⟨rfl, n, rfl⟩

/-- Roots' bounds. -/
theorem rtu_bd (n : Int) (h : 0 ≤ n) (h' : n < 72057594037927936) : 0 ≤ rtu n ∧ rtu n ≤ 268435456 := by
  obtain ⟨r0, r1, _, _⟩ := rti_spec n h h'
  unfold rtu; split <;> omega

theorem rti_le {n m : Int} (h : 0 ≤ n) (h' : n < 72057594037927936) (hm : 0 ≤ m) (hn : n ≤ m * m) : rti n ≤ m := by
  obtain ⟨r0, r1, r2, r3⟩ := rti_spec n h h'
  apply Int.not_lt.1
  intro hlt
  have := Int.mul_le_mul (a := m + 1) (b := m + 1) (c := rti n) (d := rti n) (by omega) (by omega) (by omega) (by omega)
  have e : (m + 1) * (m + 1) = m * m + 2 * m + 1 := by rw [Int.add_mul, Int.mul_add]; omega
  omega

theorem rtu_le {n m : Int} (h : 0 ≤ n) (h' : n < 72057594037927936) (hm : 0 ≤ m) (hn : n ≤ m * m) : rtu n ≤ m := by
  obtain ⟨r0, r1, r2, r3⟩ := rti_spec n h h'
  have hr := rti_le h h' hm hn
  unfold rtu
  split
  · rename_i hlt
    apply Int.not_lt.1
    intro hlt2
    have : rti n = m := by omega
    rw [this] at hlt
    omega
  · exact hr

end Go.Proofs.Ythkooiopiaakbaa
