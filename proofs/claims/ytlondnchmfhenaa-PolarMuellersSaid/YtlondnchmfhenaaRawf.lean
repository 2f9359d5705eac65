/- Floats of any bits: waves and Jones matrices, right or wrong. -/
import Derived.Test.YtlondnchmfhenaaRawe
import Derived.Test.YtlondnchmfhenaaPawk
namespace Go.Proofs.Ytlondnchmfhenaa.Ev
set_option linter.unusedSimpArgs false
open Go Go.RowKit
set_option maxRecDepth 100000
def cp_t : Tr :=
  (.call 159 [(.float .f64 (.var 0))] (.bool (.var 0)) 0 1
  (.ite (.var 0)
  (.call 159 [(.float .f64 (.var 1))] (.bool (.var 1)) 0 1
   (.ite (.var 1)
   (.call 160 [(.float .f64 (.var 0))] (.float .f64 (.var 4)) 1 0
    (.ite (.fcmp .f64 .gtr (.var 4) (.var 2))
    (.leaf (.int .i64 (.lit 2)))
    (.call 160 [(.float .f64 (.var 1))] (.float .f64 (.var 5)) 1 0
     (.ite (.fcmp .f64 .gtr (.var 5) (.var 2))
     (.leaf (.int .i64 (.lit 2)))
     (.leaf (.int .i64 (.lit 0)))))))
   (.leaf (.int .i64 (.lit 27)))))
  (.leaf (.int .i64 (.lit 27)))))
theorem cp {a b m : Nat} {M : Int} (r3 : (-4503599627370496) ≤ M ∧ M ≤ 4503599627370496) (h2 : Rp m M) {Q : Value → Prop} (H :
  (∃ u0 : Bool, (∀ w, Calls Try.prog 159 #[.float .f64 a] w fun e w' => e = .returned (.bool (u0)) ∧ Below w.heap.size w w') ∧
   ((u0 = true → (∃ u1 : Bool, (∀ w, Calls Try.prog 159 #[.float .f64 b] w fun e w' => e = .returned (.bool (u1)) ∧ Below w.heap.size w w') ∧
    ((u1 = true → (∃ v4 : Int, (∀ w, Calls Try.prog 160 #[.float .f64 a] w fun e w' => e = .returned (.float .f64 (v4 : Int).toNat) ∧ Below w.heap.size w w') ∧
     ((COp.flo .f64 .gtr (v4 : Int).toNat m = true → Q (.int .i64 (2))) ∧
     (COp.flo .f64 .gtr (v4 : Int).toNat m = false → (∃ v5 : Int, (∀ w, Calls Try.prog 160 #[.float .f64 b] w fun e w' => e = .returned (.float .f64 (v5 : Int).toNat) ∧ Below w.heap.size w w') ∧
      ((COp.flo .f64 .gtr (v5 : Int).toNat m = true → Q (.int .i64 (2))) ∧
      (COp.flo .f64 .gtr (v5 : Int).toNat m = false → Q (.int .i64 (0))))))))) ∧
    (u1 = false → Q (.int .i64 (27)))))) ∧
   (u0 = false → Q (.int .i64 (27)))))) :
    ∃ v, Q v ∧ ∀ w, Calls Try.prog 142 #[.complex .f64 a b, .float .f64 m] w fun e w' => e = .returned v ∧ Below w.heap.size w w' :=
  tree_at mixed names S1_ok (S := S1 Try.prog) (lf := 100000) (d := 60) (args := [(.complex .f64 (.var 0) (.var 1)), (.float .f64 (.var 2))]) cp_t { ivs := [(3, (-4503599627370496), 4503599627370496)], whs := [(2, (.var 3), 4503599627370496)] } [(a : Int), (b : Int), (m : Int), M] [] 4 0 rfl rfl (by kernel_rfl) (by kernel_rfl) (by kernel_rfl)
    ⟨(fc r3 fz), (fc ⟨h2, wh_rng r3, by decide⟩ fz)⟩ H
def rd_t : Tr :=
  (.call 157 [(.float .f64 (.var 0))] (.bool (.var 0)) 0 1
  (.ite (.var 0)
  (.call 157 [(.float .f64 (.var 1))] (.bool (.var 1)) 0 1
   (.ite (.var 1)
   (.ite (.fcmp .f64 .gtr (.var 0) (.toF .f64 (.var 2)))
    (.leaf (.tuple [(.agg [(.int .i64 (.lit 0)), (.int .i64 (.lit 0))]), (.int .i64 (.lit 2))]))
    (.ite (.fcmp .f64 .lss (.var 0) (.toF .f64 (.bin .subI (.lit 0) (.var 2))))
     (.leaf (.tuple [(.agg [(.int .i64 (.lit 0)), (.int .i64 (.lit 0))]), (.int .i64 (.lit 2))]))
     (.ite (.fcmp .f64 .gtr (.var 1) (.toF .f64 (.var 2)))
      (.leaf (.tuple [(.agg [(.int .i64 (.lit 0)), (.int .i64 (.lit 0))]), (.int .i64 (.lit 2))]))
      (.ite (.fcmp .f64 .lss (.var 1) (.toF .f64 (.bin .subI (.lit 0) (.var 2))))
       (.leaf (.tuple [(.agg [(.int .i64 (.lit 0)), (.int .i64 (.lit 0))]), (.int .i64 (.lit 2))]))
       (.call 158 [(.complex .f64 (.var 0) (.var 1))] (.tuple [(.int .i64 (.var 3)), (.int .i64 (.var 4))]) 2 0
        (.leaf (.tuple [(.agg [(.int .i64 (.var 3)), (.int .i64 (.var 4))]), (.int .i64 (.lit 0))])))))))
   (.leaf (.tuple [(.agg [(.int .i64 (.lit 0)), (.int .i64 (.lit 0))]), (.int .i64 (.lit 27))]))))
  (.leaf (.tuple [(.agg [(.int .i64 (.lit 0)), (.int .i64 (.lit 0))]), (.int .i64 (.lit 27))]))))
theorem rd {a b : Nat} {M : Int} (r2 : 1 ≤ M ∧ M ≤ 4503599627370496) {Q : Value → Prop} (H :
  (∃ u0 : Bool, (∀ w, Calls Try.prog 157 #[.float .f64 a] w fun e w' => e = .returned (.bool (u0)) ∧ Below w.heap.size w w') ∧
   ((u0 = true → (∃ u1 : Bool, (∀ w, Calls Try.prog 157 #[.float .f64 b] w fun e w' => e = .returned (.bool (u1)) ∧ Below w.heap.size w w') ∧
    ((u1 = true → ((COp.flo .f64 .gtr a (FloatKind.f64.nearest M) = true → Q (.tuple #[.agg #[.int .i64 (0), .int .i64 (0)], .int .i64 (2)])) ∧
     (COp.flo .f64 .gtr a (FloatKind.f64.nearest M) = false → ((COp.flo .f64 .lss a (FloatKind.f64.nearest (0 - M)) = true → Q (.tuple #[.agg #[.int .i64 (0), .int .i64 (0)], .int .i64 (2)])) ∧
      (COp.flo .f64 .lss a (FloatKind.f64.nearest (0 - M)) = false → ((COp.flo .f64 .gtr b (FloatKind.f64.nearest M) = true → Q (.tuple #[.agg #[.int .i64 (0), .int .i64 (0)], .int .i64 (2)])) ∧
       (COp.flo .f64 .gtr b (FloatKind.f64.nearest M) = false → ((COp.flo .f64 .lss b (FloatKind.f64.nearest (0 - M)) = true → Q (.tuple #[.agg #[.int .i64 (0), .int .i64 (0)], .int .i64 (2)])) ∧
        (COp.flo .f64 .lss b (FloatKind.f64.nearest (0 - M)) = false → (∃ v3 : Int, ∃ v4 : Int, (∀ w, Calls Try.prog 158 #[.complex .f64 a b] w fun e w' => e = .returned (.tuple #[.int .i64 (v3), .int .i64 (v4)]) ∧ Below w.heap.size w w') ∧
         Q (.tuple #[.agg #[.int .i64 (v3), .int .i64 (v4)], .int .i64 (0)]))))))))))) ∧
    (u1 = false → Q (.tuple #[.agg #[.int .i64 (0), .int .i64 (0)], .int .i64 (27)]))))) ∧
   (u0 = false → Q (.tuple #[.agg #[.int .i64 (0), .int .i64 (0)], .int .i64 (27)]))))) :
    ∃ v, Q v ∧ ∀ w, Calls Try.prog 141 #[.complex .f64 a b, .int .i64 (M)] w fun e w' => e = .returned v ∧ Below w.heap.size w w' :=
  tree_at mixed names S1_ok (S := S1 Try.prog) (lf := 100000) (d := 60) (args := [(.complex .f64 (.var 0) (.var 1)), (.int .i64 (.var 2))]) rd_t { ivs := [(2, 1, 4503599627370496)], whs := [] } [(a : Int), (b : Int), M] [] 3 0 rfl rfl (by kernel_rfl) (by kernel_rfl) (by kernel_rfl)
    ⟨(fc r2 fz), fz⟩ H
def bp_t : Tr :=
  (.leaf (.tuple [(.int .i64 (.var 2)), (.int .i64 (.var 3))]))
theorem bp {a b : Nat} {X Y : Int} (r2 : (-4503599627370496) ≤ X ∧ X ≤ 4503599627370496) (r3 : (-4503599627370496) ≤ Y ∧ Y ≤ 4503599627370496) (h0 : Rp a X) (h1 : Rp b Y) {Q : Value → Prop} (H :
  Q (.tuple #[.int .i64 (X), .int .i64 (Y)])) :
    ∃ v, Q v ∧ ∀ w, Calls Try.prog 158 #[.complex .f64 a b] w fun e w' => e = .returned v ∧ Below w.heap.size w w' :=
  tree_at mixed names S1_ok (S := S1 Try.prog) (lf := 100000) (d := 60) (args := [(.complex .f64 (.var 0) (.var 1))]) bp_t { ivs := [(2, (-4503599627370496), 4503599627370496), (3, (-4503599627370496), 4503599627370496)], whs := [(0, (.var 2), 4503599627370496), (1, (.var 3), 4503599627370496)] } [(a : Int), (b : Int), X, Y] [] 4 0 rfl rfl (by kernel_rfl) (by kernel_rfl) (by kernel_rfl)
    ⟨(fc r2 (fc r3 fz)), (fc ⟨h0, wh_rng r2, by decide⟩ (fc ⟨h1, wh_rng r3, by decide⟩ fz))⟩ H
def cv_t : Tr :=
  (.call 142 [(.complex .f64 (.var 0) (.var 1)), (.float .f64 (.toF .f64 (.lit 1000)))] (.int .i64 (.var 4)) 1 0
  (.ite (.icmp .eql (.var 4) (.lit 0))
  (.call 142 [(.complex .f64 (.var 2) (.var 3)), (.float .f64 (.toF .f64 (.lit 1000)))] (.int .i64 (.var 5)) 1 0
   (.ite (.icmp .eql (.var 5) (.lit 0))
   (.leaf (.int .i64 (.lit 0)))
   (.leaf (.int .i64 (.var 5)))))
  (.leaf (.int .i64 (.var 4)))))
theorem cv {a0 a1 b0 b1 : Nat} {Q : Value → Prop} (H :
  (∃ v4 : Int, (∀ w, Calls Try.prog 142 #[.complex .f64 a0 a1, .float .f64 ((((FloatKind.f64.nearest 1000 : Nat) : Int)).toNat)] w fun e w' => e = .returned (.int .i64 (v4)) ∧ Below w.heap.size w w') ∧
   ((((v4 : Int) == 0) = true → (∃ v5 : Int, (∀ w, Calls Try.prog 142 #[.complex .f64 b0 b1, .float .f64 ((((FloatKind.f64.nearest 1000 : Nat) : Int)).toNat)] w fun e w' => e = .returned (.int .i64 (v5)) ∧ Below w.heap.size w w') ∧
    ((((v5 : Int) == 0) = true → Q (.int .i64 (0))) ∧
    (((v5 : Int) == 0) = false → Q (.int .i64 (v5)))))) ∧
   (((v4 : Int) == 0) = false → Q (.int .i64 (v4)))))) :
    ∃ v, Q v ∧ ∀ w, Calls Try.prog 27 #[.agg #[.complex .f64 a0 a1, .complex .f64 b0 b1]] w fun e w' => e = .returned v ∧ Below w.heap.size w w' :=
  tree_at mixed names S1_ok (S := S1 Try.prog) (lf := 100000) (d := 60) (args := [(.agg [(.complex .f64 (.var 0) (.var 1)), (.complex .f64 (.var 2) (.var 3))])]) cv_t { ivs := [], whs := [] } [(a0 : Int), (a1 : Int), (b0 : Int), (b1 : Int)] [] 4 0 rfl rfl (by kernel_rfl) (by kernel_rfl) (by kernel_rfl)
    ⟨fz, fz⟩ H
def rv_t : Tr :=
  (.call 141 [(.complex .f64 (.var 0) (.var 1)), (.int .i64 (.lit 1000))] (.tuple [(.agg [(.int .i64 (.var 4)), (.int .i64 (.var 5))]), (.int .i64 (.var 6))]) 3 0
  (.ite (.icmp .eql (.var 6) (.lit 0))
  (.call 141 [(.complex .f64 (.var 2) (.var 3)), (.int .i64 (.lit 1000))] (.tuple [(.agg [(.int .i64 (.var 7)), (.int .i64 (.var 8))]), (.int .i64 (.var 9))]) 3 0
   (.ite (.icmp .eql (.var 9) (.lit 0))
   (.leaf (.tuple [(.agg [(.int .i64 (.var 4)), (.int .i64 (.var 5)), (.int .i64 (.var 7)), (.int .i64 (.var 8))]), (.int .i64 (.lit 0))]))
   (.leaf (.tuple [(.agg [(.int .i64 (.lit 0)), (.int .i64 (.lit 0)), (.int .i64 (.lit 0)), (.int .i64 (.lit 0))]), (.int .i64 (.var 9))]))))
  (.leaf (.tuple [(.agg [(.int .i64 (.lit 0)), (.int .i64 (.lit 0)), (.int .i64 (.lit 0)), (.int .i64 (.lit 0))]), (.int .i64 (.var 6))]))))
theorem rv {a0 a1 b0 b1 : Nat} {Q : Value → Prop} (H :
  (∃ v4 : Int, ∃ v5 : Int, ∃ v6 : Int, (∀ w, Calls Try.prog 141 #[.complex .f64 a0 a1, .int .i64 (1000)] w fun e w' => e = .returned (.tuple #[.agg #[.int .i64 (v4), .int .i64 (v5)], .int .i64 (v6)]) ∧ Below w.heap.size w w') ∧
   ((((v6 : Int) == 0) = true → (∃ v7 : Int, ∃ v8 : Int, ∃ v9 : Int, (∀ w, Calls Try.prog 141 #[.complex .f64 b0 b1, .int .i64 (1000)] w fun e w' => e = .returned (.tuple #[.agg #[.int .i64 (v7), .int .i64 (v8)], .int .i64 (v9)]) ∧ Below w.heap.size w w') ∧
    ((((v9 : Int) == 0) = true → Q (.tuple #[.agg #[.int .i64 (v4), .int .i64 (v5), .int .i64 (v7), .int .i64 (v8)], .int .i64 (0)])) ∧
    (((v9 : Int) == 0) = false → Q (.tuple #[.agg #[.int .i64 (0), .int .i64 (0), .int .i64 (0), .int .i64 (0)], .int .i64 (v9)]))))) ∧
   (((v6 : Int) == 0) = false → Q (.tuple #[.agg #[.int .i64 (0), .int .i64 (0), .int .i64 (0), .int .i64 (0)], .int .i64 (v6)]))))) :
    ∃ v, Q v ∧ ∀ w, Calls Try.prog 25 #[.agg #[.complex .f64 a0 a1, .complex .f64 b0 b1]] w fun e w' => e = .returned v ∧ Below w.heap.size w w' :=
  tree_at mixed names S1_ok (S := S1 Try.prog) (lf := 100000) (d := 60) (args := [(.agg [(.complex .f64 (.var 0) (.var 1)), (.complex .f64 (.var 2) (.var 3))])]) rv_t { ivs := [], whs := [] } [(a0 : Int), (a1 : Int), (b0 : Int), (b1 : Int)] [] 4 0 rfl rfl (by kernel_rfl) (by kernel_rfl) (by kernel_rfl)
    ⟨fz, fz⟩ H
def rm_t : Tr :=
  (.call 141 [(.complex .f64 (.var 0) (.var 1)), (.int .i64 (.lit 1000))] (.tuple [(.agg [(.int .i64 (.var 8)), (.int .i64 (.var 9))]), (.int .i64 (.var 10))]) 3 0
  (.ite (.icmp .eql (.var 10) (.lit 0))
  (.call 141 [(.complex .f64 (.var 2) (.var 3)), (.int .i64 (.lit 1000))] (.tuple [(.agg [(.int .i64 (.var 11)), (.int .i64 (.var 12))]), (.int .i64 (.var 13))]) 3 0
   (.ite (.icmp .eql (.var 13) (.lit 0))
   (.call 141 [(.complex .f64 (.var 4) (.var 5)), (.int .i64 (.lit 1000))] (.tuple [(.agg [(.int .i64 (.var 14)), (.int .i64 (.var 15))]), (.int .i64 (.var 16))]) 3 0
    (.ite (.icmp .eql (.var 16) (.lit 0))
    (.call 141 [(.complex .f64 (.var 6) (.var 7)), (.int .i64 (.lit 1000))] (.tuple [(.agg [(.int .i64 (.var 17)), (.int .i64 (.var 18))]), (.int .i64 (.var 19))]) 3 0
     (.ite (.icmp .eql (.var 19) (.lit 0))
     (.leaf (.tuple [(.agg [(.int .i64 (.var 8)), (.int .i64 (.var 9)), (.int .i64 (.var 11)), (.int .i64 (.var 12)), (.int .i64 (.var 14)), (.int .i64 (.var 15)), (.int .i64 (.var 17)), (.int .i64 (.var 18))]), (.int .i64 (.lit 0))]))
     (.leaf (.tuple [(.agg [(.int .i64 (.lit 0)), (.int .i64 (.lit 0)), (.int .i64 (.lit 0)), (.int .i64 (.lit 0)), (.int .i64 (.lit 0)), (.int .i64 (.lit 0)), (.int .i64 (.lit 0)), (.int .i64 (.lit 0))]), (.int .i64 (.var 19))]))))
    (.leaf (.tuple [(.agg [(.int .i64 (.lit 0)), (.int .i64 (.lit 0)), (.int .i64 (.lit 0)), (.int .i64 (.lit 0)), (.int .i64 (.lit 0)), (.int .i64 (.lit 0)), (.int .i64 (.lit 0)), (.int .i64 (.lit 0))]), (.int .i64 (.var 16))]))))
   (.leaf (.tuple [(.agg [(.int .i64 (.lit 0)), (.int .i64 (.lit 0)), (.int .i64 (.lit 0)), (.int .i64 (.lit 0)), (.int .i64 (.lit 0)), (.int .i64 (.lit 0)), (.int .i64 (.lit 0)), (.int .i64 (.lit 0))]), (.int .i64 (.var 13))]))))
  (.leaf (.tuple [(.agg [(.int .i64 (.lit 0)), (.int .i64 (.lit 0)), (.int .i64 (.lit 0)), (.int .i64 (.lit 0)), (.int .i64 (.lit 0)), (.int .i64 (.lit 0)), (.int .i64 (.lit 0)), (.int .i64 (.lit 0))]), (.int .i64 (.var 10))]))))
theorem rm {a0 a1 b0 b1 c0 c1 d0 d1 : Nat} {Q : Value → Prop} (H :
  (∃ v8 : Int, ∃ v9 : Int, ∃ v10 : Int, (∀ w, Calls Try.prog 141 #[.complex .f64 a0 a1, .int .i64 (1000)] w fun e w' => e = .returned (.tuple #[.agg #[.int .i64 (v8), .int .i64 (v9)], .int .i64 (v10)]) ∧ Below w.heap.size w w') ∧
   ((((v10 : Int) == 0) = true → (∃ v11 : Int, ∃ v12 : Int, ∃ v13 : Int, (∀ w, Calls Try.prog 141 #[.complex .f64 b0 b1, .int .i64 (1000)] w fun e w' => e = .returned (.tuple #[.agg #[.int .i64 (v11), .int .i64 (v12)], .int .i64 (v13)]) ∧ Below w.heap.size w w') ∧
    ((((v13 : Int) == 0) = true → (∃ v14 : Int, ∃ v15 : Int, ∃ v16 : Int, (∀ w, Calls Try.prog 141 #[.complex .f64 c0 c1, .int .i64 (1000)] w fun e w' => e = .returned (.tuple #[.agg #[.int .i64 (v14), .int .i64 (v15)], .int .i64 (v16)]) ∧ Below w.heap.size w w') ∧
     ((((v16 : Int) == 0) = true → (∃ v17 : Int, ∃ v18 : Int, ∃ v19 : Int, (∀ w, Calls Try.prog 141 #[.complex .f64 d0 d1, .int .i64 (1000)] w fun e w' => e = .returned (.tuple #[.agg #[.int .i64 (v17), .int .i64 (v18)], .int .i64 (v19)]) ∧ Below w.heap.size w w') ∧
      ((((v19 : Int) == 0) = true → Q (.tuple #[.agg #[.int .i64 (v8), .int .i64 (v9), .int .i64 (v11), .int .i64 (v12), .int .i64 (v14), .int .i64 (v15), .int .i64 (v17), .int .i64 (v18)], .int .i64 (0)])) ∧
      (((v19 : Int) == 0) = false → Q (.tuple #[.agg #[.int .i64 (0), .int .i64 (0), .int .i64 (0), .int .i64 (0), .int .i64 (0), .int .i64 (0), .int .i64 (0), .int .i64 (0)], .int .i64 (v19)]))))) ∧
     (((v16 : Int) == 0) = false → Q (.tuple #[.agg #[.int .i64 (0), .int .i64 (0), .int .i64 (0), .int .i64 (0), .int .i64 (0), .int .i64 (0), .int .i64 (0), .int .i64 (0)], .int .i64 (v16)]))))) ∧
    (((v13 : Int) == 0) = false → Q (.tuple #[.agg #[.int .i64 (0), .int .i64 (0), .int .i64 (0), .int .i64 (0), .int .i64 (0), .int .i64 (0), .int .i64 (0), .int .i64 (0)], .int .i64 (v13)]))))) ∧
   (((v10 : Int) == 0) = false → Q (.tuple #[.agg #[.int .i64 (0), .int .i64 (0), .int .i64 (0), .int .i64 (0), .int .i64 (0), .int .i64 (0), .int .i64 (0), .int .i64 (0)], .int .i64 (v10)]))))) :
    ∃ v, Q v ∧ ∀ w, Calls Try.prog 26 #[.agg #[.complex .f64 a0 a1, .complex .f64 b0 b1, .complex .f64 c0 c1, .complex .f64 d0 d1]] w fun e w' => e = .returned v ∧ Below w.heap.size w w' :=
  tree_at mixed names S1_ok (S := S1 Try.prog) (lf := 100000) (d := 60) (args := [(.agg [(.complex .f64 (.var 0) (.var 1)), (.complex .f64 (.var 2) (.var 3)), (.complex .f64 (.var 4) (.var 5)), (.complex .f64 (.var 6) (.var 7))])]) rm_t { ivs := [], whs := [] } [(a0 : Int), (a1 : Int), (b0 : Int), (b1 : Int), (c0 : Int), (c1 : Int), (d0 : Int), (d1 : Int)] [] 8 0 rfl rfl (by kernel_rfl) (by kernel_rfl) (by kernel_rfl)
    ⟨fz, fz⟩ H
def cj_t : Tr :=
  (.call 142 [(.complex .f64 (.var 0) (.var 1)), (.float .f64 (.toF .f64 (.lit 1000)))] (.int .i64 (.var 8)) 1 0
  (.ite (.icmp .eql (.var 8) (.lit 0))
  (.call 142 [(.complex .f64 (.var 2) (.var 3)), (.float .f64 (.toF .f64 (.lit 1000)))] (.int .i64 (.var 9)) 1 0
   (.ite (.icmp .eql (.var 9) (.lit 0))
   (.call 142 [(.complex .f64 (.var 4) (.var 5)), (.float .f64 (.toF .f64 (.lit 1000)))] (.int .i64 (.var 10)) 1 0
    (.ite (.icmp .eql (.var 10) (.lit 0))
    (.call 142 [(.complex .f64 (.var 6) (.var 7)), (.float .f64 (.toF .f64 (.lit 1000)))] (.int .i64 (.var 11)) 1 0
     (.ite (.icmp .eql (.var 11) (.lit 0))
     (.leaf (.int .i64 (.lit 0)))
     (.leaf (.int .i64 (.var 11)))))
    (.leaf (.int .i64 (.var 10)))))
   (.leaf (.int .i64 (.var 9)))))
  (.leaf (.int .i64 (.var 8)))))
theorem cj {a0 a1 b0 b1 c0 c1 d0 d1 : Nat} {Q : Value → Prop} (H :
  (∃ v8 : Int, (∀ w, Calls Try.prog 142 #[.complex .f64 a0 a1, .float .f64 ((((FloatKind.f64.nearest 1000 : Nat) : Int)).toNat)] w fun e w' => e = .returned (.int .i64 (v8)) ∧ Below w.heap.size w w') ∧
   ((((v8 : Int) == 0) = true → (∃ v9 : Int, (∀ w, Calls Try.prog 142 #[.complex .f64 b0 b1, .float .f64 ((((FloatKind.f64.nearest 1000 : Nat) : Int)).toNat)] w fun e w' => e = .returned (.int .i64 (v9)) ∧ Below w.heap.size w w') ∧
    ((((v9 : Int) == 0) = true → (∃ v10 : Int, (∀ w, Calls Try.prog 142 #[.complex .f64 c0 c1, .float .f64 ((((FloatKind.f64.nearest 1000 : Nat) : Int)).toNat)] w fun e w' => e = .returned (.int .i64 (v10)) ∧ Below w.heap.size w w') ∧
     ((((v10 : Int) == 0) = true → (∃ v11 : Int, (∀ w, Calls Try.prog 142 #[.complex .f64 d0 d1, .float .f64 ((((FloatKind.f64.nearest 1000 : Nat) : Int)).toNat)] w fun e w' => e = .returned (.int .i64 (v11)) ∧ Below w.heap.size w w') ∧
      ((((v11 : Int) == 0) = true → Q (.int .i64 (0))) ∧
      (((v11 : Int) == 0) = false → Q (.int .i64 (v11)))))) ∧
     (((v10 : Int) == 0) = false → Q (.int .i64 (v10)))))) ∧
    (((v9 : Int) == 0) = false → Q (.int .i64 (v9)))))) ∧
   (((v8 : Int) == 0) = false → Q (.int .i64 (v8)))))) :
    ∃ v, Q v ∧ ∀ w, Calls Try.prog 28 #[.agg #[.complex .f64 a0 a1, .complex .f64 b0 b1, .complex .f64 c0 c1, .complex .f64 d0 d1]] w fun e w' => e = .returned v ∧ Below w.heap.size w w' :=
  tree_at mixed names S1_ok (S := S1 Try.prog) (lf := 100000) (d := 60) (args := [(.agg [(.complex .f64 (.var 0) (.var 1)), (.complex .f64 (.var 2) (.var 3)), (.complex .f64 (.var 4) (.var 5)), (.complex .f64 (.var 6) (.var 7))])]) cj_t { ivs := [], whs := [] } [(a0 : Int), (a1 : Int), (b0 : Int), (b1 : Int), (c0 : Int), (c1 : Int), (d0 : Int), (d1 : Int)] [] 8 0 rfl rfl (by kernel_rfl) (by kernel_rfl) (by kernel_rfl)
    ⟨fz, fz⟩ H
abbrev U (b : Nat) : Prop := b < 18446744073709551616
/-- The error of a complex number. -/
def ckC (a b : Nat) (M : Int) : Int := if whB a && whB b then (if bigB a M || bigB b M then 2 else 0) else 27
theorem num_of {b : Nat} (hb : U b) (h : whB b = true) : ∃ s m e, NumB b s m e := by
  rcases read_cases hb with ⟨s, t, hr⟩ | ⟨s, hr, _⟩ | g
  · unfold whB at h; rw [hr] at h; cases h
  · unfold whB at h; rw [hr] at h; cases h
  · exact g
theorem parts_raw {a b : Nat} {M : Int} (ha : U a) (hb : U b) (h1 : 1 ≤ M) (h2 : M ≤ 4503599627370496) (w : World) : Calls Try.prog 142 #[.complex .f64 a b, .float .f64 (FloatKind.f64.nearest M)] w fun e w' => e = .returned (.int .i64 (ckC a b M)) ∧ Below w.heap.size w w' := by
  refine one_val (cp (M := M) ⟨by omega, by omega⟩ (Rp_fi M) (Q := (· = _)) ⟨whB a, fun w => whole_raw ha w, fun g1 => ⟨whB b, fun w => whole_raw hb w, fun g2 => ⟨((a % 9223372036854775808 : Nat) : Int), fun w => abs_raw ha w, fun g3 => ?_, fun g3 => ⟨((b % 9223372036854775808 : Nat) : Int), fun w => abs_raw hb w, fun g4 => ?_, fun g4 => ?_⟩⟩, fun g2 => ?_⟩, fun g1 => ?_⟩) w
  · have g3 : bigB a M = true := g3
    simp [ckC, g1, g2, g3]
  · have g3 : bigB a M = false := g3
    have g4 : bigB b M = true := g4
    simp [ckC, g1, g2, g3, g4]
  · have g3 : bigB a M = false := g3
    have g4 : bigB b M = false := g4
    simp [ckC, g1, g2, g3, g4]
  · simp [ckC, g1, g2]
  · simp [ckC, g1]
theorem ck_ok {a b : Nat} {M : Int} (ha : U a) (hb : U b) (h1 : 1 ≤ M) (h2 : M ≤ 4503599627370496) (h : ckC a b M = 0) : ∃ X Y : Int, Rp a X ∧ Rp b Y ∧ (-M ≤ X ∧ X ≤ M) ∧ (-M ≤ Y ∧ Y ≤ M) := by
  unfold ckC at h
  by_cases g : (whB a && whB b) = true
  · rw [if_pos g] at h
    simp only [Bool.and_eq_true] at g
    by_cases k : (bigB a M || bigB b M) = true
    · rw [if_pos k] at h; cases h
    · simp only [Bool.or_eq_true, not_or, Bool.not_eq_true] at k
      obtain ⟨s, m, e, ra⟩ := num_of ha g.1
      obtain ⟨t, n, f, rb⟩ := num_of hb g.2
      obtain ⟨X, x1, x2⟩ := ra.small (by omega) h2 g.1 k.1
      obtain ⟨Y, y1, y2⟩ := rb.small (by omega) h2 g.2 k.2
      exact ⟨X, Y, x1, y1, x2, y2⟩
  · rw [if_neg g] at h; cases h
theorem ck_in (a b : Nat) (M : Int) : ckC a b M = 0 ∨ ckC a b M = 2 ∨ ckC a b M = 27 := by
  unfold ckC
  split
  · split <;> simp
  · simp
theorem zero_sub' (M : Int) : (0 : Int) - M = -M := by omega
theorem read_raw {a b : Nat} {M : Int} (ha : U a) (hb : U b) (h1 : 1 ≤ M) (h2 : M ≤ 4503599627370496) : ∃ X Y : Int, ∀ w, Calls Try.prog 141 #[.complex .f64 a b, .int .i64 M] w fun e w' => e = .returned (.tuple #[.agg #[.int .i64 X, .int .i64 Y], .int .i64 (ckC a b M)]) ∧ Below w.heap.size w w' := by
  have key : ∃ X Y : Int, (ckC a b M = 0 → ∀ w, Calls Try.prog 158 #[.complex .f64 a b] w fun e w' => e = .returned (.tuple #[.int .i64 X, .int .i64 Y]) ∧ Below w.heap.size w w') ∧ (ckC a b M ≠ 0 → X = 0 ∧ Y = 0) := by
    by_cases h : ckC a b M = 0
    · obtain ⟨X, Y, x1, y1, x2, y2⟩ := ck_ok ha hb h1 h2 h
      exact ⟨X, Y, fun _ w => one_val (bp (X := X) (Y := Y) ⟨by omega, by omega⟩ ⟨by omega, by omega⟩ x1 y1 (Q := (· = _)) rfl) w, fun g => absurd h g⟩
    · exact ⟨0, 0, fun g => absurd g h, fun _ => ⟨rfl, rfl⟩⟩
  obtain ⟨X, Y, k1, k2⟩ := key
  refine ⟨X, Y, fun w => ?_⟩
  refine one_val (rd (M := M) ⟨by omega, by omega⟩ (Q := (· = _)) ⟨whB a, fun w => base_raw ha w, fun g1 => ⟨whB b, fun w => base_raw hb w, fun g2 => ?_, fun g2 => ?_⟩, fun g1 => ?_⟩) w
  · obtain ⟨s, m, e, ra⟩ := num_of ha g1
    obtain ⟨t, n, f, rb⟩ := num_of hb g2
    have ta := ra.big_two (M := M) (by omega) (by omega)
    have tb := rb.big_two (M := M) (by omega) (by omega)
    rw [zero_sub']
    refine ⟨fun g3 => ?_, fun g3 => ⟨fun g4 => ?_, fun g4 => ⟨fun g5 => ?_, fun g5 => ⟨fun g6 => ?_, fun g6 => ?_⟩⟩⟩⟩
    · have g3 : (Ieee.double.order a (fi M) == some .gt) = true := g3
      have c : ckC a b M = 2 := by rw [g3, Bool.true_or] at ta; simp [ckC, g1, g2, ← ta]
      obtain ⟨rfl, rfl⟩ := k2 (by omega); rw [c]
    · have g4 : (Ieee.double.order a (fi (-M)) == some .lt) = true := g4
      have c : ckC a b M = 2 := by rw [g4, Bool.or_true] at ta; simp [ckC, g1, g2, ← ta]
      obtain ⟨rfl, rfl⟩ := k2 (by omega); rw [c]
    · have g5 : (Ieee.double.order b (fi M) == some .gt) = true := g5
      have c : ckC a b M = 2 := by rw [g5, Bool.true_or] at tb; simp [ckC, g1, g2, ← tb]
      obtain ⟨rfl, rfl⟩ := k2 (by omega); rw [c]
    · have g6 : (Ieee.double.order b (fi (-M)) == some .lt) = true := g6
      have c : ckC a b M = 2 := by rw [g6, Bool.or_true] at tb; simp [ckC, g1, g2, ← tb]
      obtain ⟨rfl, rfl⟩ := k2 (by omega); rw [c]
    · have g3 : (Ieee.double.order a (fi M) == some .gt) = false := g3
      have g4 : (Ieee.double.order a (fi (-M)) == some .lt) = false := g4
      have g5 : (Ieee.double.order b (fi M) == some .gt) = false := g5
      have g6 : (Ieee.double.order b (fi (-M)) == some .lt) = false := g6
      have c : ckC a b M = 0 := by
        rw [g3, g4] at ta; rw [g5, g6] at tb; simp [ckC, g1, g2, ← ta, ← tb]
      exact ⟨X, Y, k1 c, by rw [c]⟩
  · have c : ckC a b M = 27 := by simp [ckC, g1, g2]
    obtain ⟨rfl, rfl⟩ := k2 (by omega); rw [c]
  · have c : ckC a b M = 27 := by simp [ckC, g1]
    obtain ⟨rfl, rfl⟩ := k2 (by omega); rw [c]
def fst (c d : Int) : Int := if c = 0 then d else c
theorem fst_ne {c d : Int} (h : c ≠ 0) : fst c d = c := if_neg h
theorem fst_eq {c d : Int} (h : c = 0) : fst c d = d := if_pos h
theorem beq0 {c : Int} : ((c : Int) == 0) = true → c = 0 := fun h => by simpa using h
theorem bne0 {c : Int} : ((c : Int) == 0) = false → c ≠ 0 := fun h => by simpa using h
/-- The error of a wave, and of a Jones matrix. -/
def veC (a0 a1 b0 b1 : Nat) : Int := fst (ckC a0 a1 1000) (ckC b0 b1 1000)
def maC (a0 a1 b0 b1 c0 c1 d0 d1 : Nat) : Int := fst (ckC a0 a1 1000) (fst (ckC b0 b1 1000) (fst (ckC c0 c1 1000) (ckC d0 d1 1000)))
theorem vec_raw {a0 a1 b0 b1 : Nat} (h0 : U a0) (h1 : U a1) (h2 : U b0) (h3 : U b1) (w : World) : Calls Try.prog 27 #[.agg #[.complex .f64 a0 a1, .complex .f64 b0 b1]] w fun e w' => e = .returned (.int .i64 (veC a0 a1 b0 b1)) ∧ Below w.heap.size w w' := by
  refine one_val (cv (Q := (· = _)) ⟨_, fun w => parts_raw (M := 1000) h0 h1 (by decide) (by decide) w, fun g => ⟨_, fun w => parts_raw (M := 1000) h2 h3 (by decide) (by decide) w, fun g' => ?_, fun g' => ?_⟩, fun g => ?_⟩) w
  · rw [veC, fst_eq (beq0 g), beq0 g']
  · rw [veC, fst_eq (beq0 g)]
  · rw [veC, fst_ne (bne0 g)]
theorem jon_raw {a0 a1 b0 b1 c0 c1 d0 d1 : Nat} (h0 : U a0) (h1 : U a1) (h2 : U b0) (h3 : U b1) (h4 : U c0) (h5 : U c1) (h6 : U d0) (h7 : U d1) (w : World) : Calls Try.prog 28 #[.agg #[.complex .f64 a0 a1, .complex .f64 b0 b1, .complex .f64 c0 c1, .complex .f64 d0 d1]] w fun e w' => e = .returned (.int .i64 (maC a0 a1 b0 b1 c0 c1 d0 d1)) ∧ Below w.heap.size w w' := by
  refine one_val (cj (Q := (· = _)) ⟨_, fun w => parts_raw (M := 1000) h0 h1 (by decide) (by decide) w, fun g => ⟨_, fun w => parts_raw (M := 1000) h2 h3 (by decide) (by decide) w, fun g' => ⟨_, fun w => parts_raw (M := 1000) h4 h5 (by decide) (by decide) w, fun g2 => ⟨_, fun w => parts_raw (M := 1000) h6 h7 (by decide) (by decide) w, fun g3 => ?_, fun g3 => ?_⟩, fun g2 => ?_⟩, fun g' => ?_⟩, fun g => ?_⟩) w
  · rw [maC, fst_eq (beq0 g), fst_eq (beq0 g'), fst_eq (beq0 g2), beq0 g3]
  · rw [maC, fst_eq (beq0 g), fst_eq (beq0 g'), fst_eq (beq0 g2)]
  · rw [maC, fst_eq (beq0 g), fst_eq (beq0 g'), fst_ne (bne0 g2)]
  · rw [maC, fst_eq (beq0 g), fst_ne (bne0 g')]
  · rw [maC, fst_ne (bne0 g)]
theorem wave_bad {a0 a1 b0 b1 : Nat} (h0 : U a0) (h1 : U a1) (h2 : U b0) (h3 : U b1) (h : veC a0 a1 b0 b1 ≠ 0) (w : World) : Calls Try.prog 25 #[.agg #[.complex .f64 a0 a1, .complex .f64 b0 b1]] w fun e w' => e = .returned (.tuple #[.agg #[.int .i64 0, .int .i64 0, .int .i64 0, .int .i64 0], .int .i64 (veC a0 a1 b0 b1)]) ∧ Below w.heap.size w w' := by
  obtain ⟨X, Y, r1⟩ := read_raw (M := 1000) h0 h1 (by decide) (by decide)
  obtain ⟨Z, V, r2⟩ := read_raw (M := 1000) h2 h3 (by decide) (by decide)
  refine one_val (rv (Q := (· = _)) ⟨X, Y, _, r1, fun g => ⟨Z, V, _, r2, fun g' => ?_, fun g' => ?_⟩, fun g => ?_⟩) w
  · exact absurd (by rw [veC, fst_eq (beq0 g), beq0 g']) h
  · rw [veC, fst_eq (beq0 g)]
  · rw [veC, fst_ne (bne0 g)]
theorem matrix_bad {a0 a1 b0 b1 c0 c1 d0 d1 : Nat} (h0 : U a0) (h1 : U a1) (h2 : U b0) (h3 : U b1) (h4 : U c0) (h5 : U c1) (h6 : U d0) (h7 : U d1) (h : maC a0 a1 b0 b1 c0 c1 d0 d1 ≠ 0) (w : World) : Calls Try.prog 26 #[.agg #[.complex .f64 a0 a1, .complex .f64 b0 b1, .complex .f64 c0 c1, .complex .f64 d0 d1]] w fun e w' => e = .returned (.tuple #[.agg #[.int .i64 0, .int .i64 0, .int .i64 0, .int .i64 0, .int .i64 0, .int .i64 0, .int .i64 0, .int .i64 0], .int .i64 (maC a0 a1 b0 b1 c0 c1 d0 d1)]) ∧ Below w.heap.size w w' := by
  obtain ⟨X, Y, r1⟩ := read_raw (M := 1000) h0 h1 (by decide) (by decide)
  obtain ⟨X2, Y2, r2⟩ := read_raw (M := 1000) h2 h3 (by decide) (by decide)
  obtain ⟨X3, Y3, r3⟩ := read_raw (M := 1000) h4 h5 (by decide) (by decide)
  obtain ⟨X4, Y4, r4⟩ := read_raw (M := 1000) h6 h7 (by decide) (by decide)
  refine one_val (rm (Q := (· = _)) ⟨X, Y, _, r1, fun g => ⟨X2, Y2, _, r2, fun g' => ⟨X3, Y3, _, r3, fun g2 => ⟨X4, Y4, _, r4, fun g3 => ?_, fun g3 => ?_⟩, fun g2 => ?_⟩, fun g' => ?_⟩, fun g => ?_⟩) w
  · exact absurd (by rw [maC, fst_eq (beq0 g), fst_eq (beq0 g'), fst_eq (beq0 g2), beq0 g3]) h
  · rw [maC, fst_eq (beq0 g), fst_eq (beq0 g'), fst_eq (beq0 g2)]
  · rw [maC, fst_eq (beq0 g), fst_eq (beq0 g'), fst_ne (bne0 g2)]
  · rw [maC, fst_eq (beq0 g), fst_ne (bne0 g')]
  · rw [maC, fst_ne (bne0 g)]
theorem fst_zero {c d : Int} (h : fst c d = 0) : c = 0 ∧ d = 0 := by
  by_cases g : c = 0
  · rw [fst_eq g] at h; exact ⟨g, h⟩
  · rw [fst_ne g] at h; exact absurd h g
theorem fst_in {c d : Int} (h : c = 0 ∨ c = 2 ∨ c = 27) (h' : d = 0 ∨ d = 2 ∨ d = 27) : fst c d = 0 ∨ fst c d = 2 ∨ fst c d = 27 := by
  unfold fst; split
  · exact h'
  · exact h
theorem ve_in (a0 a1 b0 b1 : Nat) : veC a0 a1 b0 b1 = 0 ∨ veC a0 a1 b0 b1 = 2 ∨ veC a0 a1 b0 b1 = 27 := fst_in (ck_in _ _ _) (ck_in _ _ _)
theorem ma_in (a0 a1 b0 b1 c0 c1 d0 d1 : Nat) : maC a0 a1 b0 b1 c0 c1 d0 d1 = 0 ∨ maC a0 a1 b0 b1 c0 c1 d0 d1 = 2 ∨ maC a0 a1 b0 b1 c0 c1 d0 d1 = 27 := fst_in (ck_in _ _ _) (fst_in (ck_in _ _ _) (fst_in (ck_in _ _ _) (ck_in _ _ _)))
/-- What a right wave holds. -/
theorem ve_ok {a0 a1 b0 b1 : Nat} (h0 : U a0) (h1 : U a1) (h2 : U b0) (h3 : U b1) (h : veC a0 a1 b0 b1 = 0) : ∃ A0 A1 B0 B1 : Int, (Rp a0 A0 ∧ Rp a1 A1 ∧ Rp b0 B0 ∧ Rp b1 B1) ∧ (-1000 ≤ A0 ∧ A0 ≤ 1000) ∧ (-1000 ≤ A1 ∧ A1 ≤ 1000) ∧ (-1000 ≤ B0 ∧ B0 ≤ 1000) ∧ (-1000 ≤ B1 ∧ B1 ≤ 1000) := by
  obtain ⟨k1, k2⟩ := fst_zero h
  obtain ⟨X, Y, x1, y1, x2, y2⟩ := ck_ok h0 h1 (by decide) (by decide) k1
  obtain ⟨Z, V, x3, y3, x4, y4⟩ := ck_ok h2 h3 (by decide) (by decide) k2
  exact ⟨X, Y, Z, V, ⟨x1, y1, x3, y3⟩, x2, y2, x4, y4⟩
theorem ma_ok {a0 a1 b0 b1 c0 c1 d0 d1 : Nat} (h0 : U a0) (h1 : U a1) (h2 : U b0) (h3 : U b1) (h4 : U c0) (h5 : U c1) (h6 : U d0) (h7 : U d1) (h : maC a0 a1 b0 b1 c0 c1 d0 d1 = 0) : ∃ A0 A1 B0 B1 C0 C1 D0 D1 : Int, (Rp a0 A0 ∧ Rp a1 A1 ∧ Rp b0 B0 ∧ Rp b1 B1 ∧ Rp c0 C0 ∧ Rp c1 C1 ∧ Rp d0 D0 ∧ Rp d1 D1) ∧ (-1000 ≤ A0 ∧ A0 ≤ 1000) ∧ (-1000 ≤ A1 ∧ A1 ≤ 1000) ∧ (-1000 ≤ B0 ∧ B0 ≤ 1000) ∧ (-1000 ≤ B1 ∧ B1 ≤ 1000) ∧ (-1000 ≤ C0 ∧ C0 ≤ 1000) ∧ (-1000 ≤ C1 ∧ C1 ≤ 1000) ∧ (-1000 ≤ D0 ∧ D0 ≤ 1000) ∧ (-1000 ≤ D1 ∧ D1 ≤ 1000) := by
  obtain ⟨k1, k⟩ := fst_zero h
  obtain ⟨k2, k⟩ := fst_zero k
  obtain ⟨k3, k4⟩ := fst_zero k
  obtain ⟨X, Y, x1, y1, x2, y2⟩ := ck_ok h0 h1 (by decide) (by decide) k1
  obtain ⟨X3, Y3, x3, y3, x4, y4⟩ := ck_ok h2 h3 (by decide) (by decide) k2
  obtain ⟨X5, Y5, x5, y5, x6, y6⟩ := ck_ok h4 h5 (by decide) (by decide) k3
  obtain ⟨X7, Y7, x7, y7, x8, y8⟩ := ck_ok h6 h7 (by decide) (by decide) k4
  exact ⟨X, Y, X3, Y3, X5, Y5, X7, Y7, ⟨x1, y1, x3, y3, x5, y5, x7, y7⟩, x2, y2, x4, y4, x6, y6, x8, y8⟩
end Go.Proofs.Ytlondnchmfhenaa.Ev
