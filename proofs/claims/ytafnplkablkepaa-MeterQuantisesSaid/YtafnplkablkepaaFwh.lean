/- Quantised samples, of both. -/
import Derived.Test.YtafnplkablkepaaFwe
import Derived.Test.YtafnplkablkepaaF35
import Derived.Test.YtafnplkablkepaaFvw3
namespace Go.Proofs.Ytafnplkablkepaa.Ev
set_option linter.unusedSimpArgs false
open Go Go.RowKit
set_option linter.unusedVariables false
set_option maxRecDepth 100000
def meter_Quantised_s : Sig := ⟨20, ⟨2, 0, 1⟩, ⟨2, 0, 1⟩, [(.asl 0 (.var 0)), (.int .i64 (.var 1))], [(some ⟨[], 3, true, false, (some ⟨(.var 0), [(.int .i64)], [(.avar 0)]⟩)⟩)], (.tuple [(.asl 1 (.var 2)), (.int .i64 (.var 3))]), [(some ⟨[], 65, false, true, (some ⟨(.var 2), [(.float .f32)], [(.avar 1)]⟩)⟩)]⟩
def etalonref06_Quantised_s : Sig := ⟨22, ⟨2, 0, 1⟩, ⟨2, 0, 1⟩, [(.asl 0 (.var 0)), (.int .i64 (.var 1))], [(some ⟨[], 3, true, false, (some ⟨(.var 0), [(.int .i64)], [(.avar 0)]⟩)⟩)], (.tuple [(.asl 1 (.var 2)), (.int .i64 (.var 3))]), [(some ⟨[], 65, false, true, (some ⟨(.var 2), [(.float .f32)], [(.avar 1)]⟩)⟩)]⟩

def pqu_t : Tr :=
  (.ite (.icmp .leq (.var 0) (.lit 64))
  (.ite (.icmp .leq (.lit 1) (.var 1))
   (.ite (.icmp .leq (.var 1) (.lit 1000))
    (.loop ⟨20, [0, 1, 0, 1, 1, 1, 1], [(.asl 0 (.var 0)), (.int .i64 (.var 1)), (.tuple []), (.tuple []), (.slice none 0 0), (.int .i64 (.lit 0)), (.slice none 0 0), (.tuple []), (.tuple []), (.tuple []), (.tuple []), (.asl 0 (.var 0)), (.int .i64 (.var 0)), (.bool (.icmp .gtr (.var 0) (.lit 64))), (.int .i64 (.var 1)), (.bool (.icmp .leq (.var 1) (.lit 1000))), (.bool (.not (.icmp .leq (.var 1) (.lit 1000)))), (.asl 0 (.var 0)), (.int .i64 (.var 0)), (.int .i64 (.lit 0)), (.tuple []), (.tuple []), (.tuple []), (.tuple []), (.tuple []), (.tuple []), (.tuple []), (.tuple []), (.tuple []), (.tuple []), (.tuple []), (.tuple []), (.tuple []), (.tuple []), (.tuple []), (.tuple []), (.tuple []), (.tuple []), (.tuple []), (.tuple []), (.tuple []), (.tuple []), (.tuple []), (.tuple []), (.tuple [])], [(some ⟨[], 3, true, false, (some ⟨(.var 0), [(.int .i64)], [(.avar 0)]⟩)⟩)], [(.gh 6 65 [(.float .f32)])], [(.asl 0 (.var 0)), (.int .i64 (.var 1)), (.tuple []), (.tuple []), (.slice none 0 0), (.int .i64 (.lit 0)), (.asl 1 (.var 3)), (.tuple []), (.any 8), (.any 9), (.any 10), (.asl 0 (.var 0)), (.int .i64 (.var 0)), (.bool (.icmp .gtr (.var 0) (.lit 64))), (.int .i64 (.var 1)), (.bool (.icmp .leq (.var 1) (.lit 1000))), (.bool (.not (.icmp .leq (.var 1) (.lit 1000)))), (.asl 0 (.var 0)), (.int .i64 (.var 0)), (.int .i64 (.var 2)), (.any 20), (.any 21), (.any 22), (.any 23), (.any 24), (.any 25), (.any 26), (.any 27), (.any 28), (.any 29), (.any 30), (.any 31), (.any 32), (.any 33), (.any 34), (.any 35), (.any 36), (.any 37), (.any 38), (.any 39), (.any 40), (.any 41), (.any 42), (.any 43), (.tuple [])], [(some ⟨[], 3, true, false, (some ⟨(.var 0), [(.int .i64)], [(.avar 0)]⟩)⟩), (some ⟨[], 65, false, true, (some ⟨(.var 3), [(.float .f32)], [(.avar 1)]⟩)⟩)], [], ⟨2, 0, 1⟩, ⟨[(.lit 0), (.lit 0)], [], [(.acst (.lit 0))]⟩, [1]⟩
     (.rng 2 0 70 (.rng 3 0 70 (.ite (.icmp .leq (.var 0) (.var 2))
      (.out 1 ⟨[(.var 3)], [], [(.avar 1)]⟩ [1])
      (.ite (.icmp .leq (.lit 0) (.sel (.avar 0) (.var 2)))
       (.ite (.icmp .leq (.sel (.avar 0) (.var 2)) (.lit 65535))
        (.call whole_Nearest_s ⟨[(.sel (.avar 0) (.var 2)), (.lit 1), (.var 1)], [], []⟩ ⟨[(.sel (.avar 0) (.var 2)), (.lit 1), (.var 1), (.var 4)], [(.var 0)], []⟩ ⟨44, [(.int .i64 (.sel (.avar 0) (.var 2))), (.int .i64 (.lit 1)), (.int .i64 (.var 1))], [], [none, none], (.tuple [(.int .i64 (.var 4)), (.bool (.var 0))]), []⟩
         (.ite (.icmp .leq (.bin (.mulW .i64) (.var 4) (.var 1)) (.lit 65535))
         (.next ⟨[(.bin .addI (.var 2) (.lit 1)), (.bin .addI (.var 3) (.lit 1))], [], [(.aupd (.avar 1) (.var 3) (.toF .f32 (.bin (.mulW .i64) (.var 4) (.var 1))))]⟩ [3])
         (.out 0 ⟨[(.lit 8), (.var 3)], [], [(.avar 1)]⟩ [1])))
        (.out 0 ⟨[(.lit 2), (.var 3)], [], [(.avar 1)]⟩ [1]))
       (.out 0 ⟨[(.lit 2), (.var 3)], [], [(.avar 1)]⟩ [1])))))
     (.ex (.ret, [(.asl 0 (.var 0)), (.int .i64 (.var 1)), (.tuple []), (.tuple []), (.slice none 0 0), (.int .i64 (.var 2)), (.asl 1 (.var 3)), (.tuple []), (.any 8), (.any 9), (.any 10), (.asl 0 (.var 0)), (.int .i64 (.var 0)), (.bool (.icmp .gtr (.var 0) (.lit 64))), (.int .i64 (.var 1)), (.bool (.icmp .leq (.var 1) (.lit 1000))), (.bool (.not (.icmp .leq (.var 1) (.lit 1000)))), (.asl 0 (.var 0)), (.int .i64 (.var 0)), (.any 19), (.any 20), (.any 21), (.any 22), (.any 23), (.any 24), (.any 25), (.any 26), (.any 27), (.any 28), (.any 29), (.any 30), (.any 31), (.any 32), (.any 33), (.any 34), (.any 35), (.any 36), (.any 37), (.any 38), (.any 39), (.any 40), (.any 41), (.any 42), (.any 43), (.tuple [])], [(some ⟨[], 3, true, false, (some ⟨(.var 0), [(.int .i64)], [(.avar 0)]⟩)⟩), (some ⟨[], 65, false, true, (some ⟨(.var 3), [(.float .f32)], [(.avar 1)]⟩)⟩)], []) ⟨2, 0, 1⟩
     (.rng 2 (-9223372036854775808) 9223372036854775807 (.rng 3 0 140737488355328 (.ret ⟨[(.lit 0), (.var 2)], [], [(.acst (.lit 0))]⟩ [1])))
     (.ex ((.exit 0), [(.asl 0 (.var 0)), (.int .i64 (.var 1)), (.tuple []), (.tuple []), (.slice none 0 0), (.int .i64 (.lit 0)), (.asl 1 (.var 2)), (.tuple []), (.any 8), (.any 9), (.any 10), (.asl 0 (.var 0)), (.int .i64 (.var 0)), (.bool (.icmp .gtr (.var 0) (.lit 64))), (.int .i64 (.var 1)), (.bool (.icmp .leq (.var 1) (.lit 1000))), (.bool (.not (.icmp .leq (.var 1) (.lit 1000)))), (.asl 0 (.var 0)), (.int .i64 (.var 0)), (.any 19), (.any 20), (.any 21), (.any 22), (.any 23), (.any 24), (.any 25), (.any 26), (.any 27), (.any 28), (.any 29), (.any 30), (.any 31), (.any 32), (.any 33), (.any 34), (.any 35), (.any 36), (.any 37), (.any 38), (.any 39), (.any 40), (.any 41), (.any 42), (.any 43), (.tuple [])], [(some ⟨[], 3, true, false, (some ⟨(.var 0), [(.int .i64)], [(.avar 0)]⟩)⟩), (some ⟨[], 65, false, true, (some ⟨(.var 2), [(.float .f32)], [(.avar 1)]⟩)⟩)], []) ⟨1, 0, 1⟩
     (.rng 2 0 140737488355328 (.ret ⟨[(.var 2), (.lit 0)], [], [(.avar 1)]⟩ [1]))
     .nil)))
    (.ret ⟨[(.lit 0), (.lit 2)], [], [(.acst (.lit 0))]⟩ [1]))
   (.ret ⟨[(.lit 0), (.lit 2)], [], [(.acst (.lit 0))]⟩ [1]))
  (.ret ⟨[(.lit 0), (.lit 8)], [], [(.acst (.lit 0))]⟩ [1]))
theorem pqu {x0 x1 : Int} {f0 : Int → Int} (r0 : 0 ≤ x0 ∧ x0 ≤ 70) (r1 : (-9223372036854775808) ≤ x1 ∧ x1 ≤ 9223372036854775807) (s0 : ∀ q, (-9223372036854775808) ≤ f0 q ∧ f0 q ≤ 9223372036854775807) {R : Int → Int → (Int → Int) → Prop}
  (H : ((decide ((x0 : Int) ≤ 64) = true → ((decide ((1 : Int) ≤ x1) = true → ((decide ((x1 : Int) ≤ 1000) = true → (∃ (I2 : Int → Int → (Int → Int) → Prop) (rk2 : Int → Int → (Int → Int) → Nat), I2 (0) (0) ((fun _ => 0)) ∧
      (∀ x2 : Int, ∀ x3 : Int, ∀ f1 : Int → Int, I2 x2 x3 f1 → ((0 ≤ (x2 : Int) ∧ (x2 : Int) ≤ 70) ∧ ((0 ≤ (x3 : Int) ∧ (x3 : Int) ≤ 70) ∧ ((decide ((x0 : Int) ≤ x2) = true → ((0 ≤ ((x3) : Int) ∧ ((x3) : Int) ≤ 140737488355328) ∧ R ((x3)) (0) (f1))) ∧
       (decide ((x0 : Int) ≤ x2) = false → ((decide ((0 : Int) ≤ (f0 x2)) = true → ((decide (((f0 x2) : Int) ≤ 65535) = true → (∃ v4 : Int, ∃ u0 : Bool, Spec Try.prog whole_Nearest_s ⟨[(f0 x2), 1, x1], [], []⟩ [v4] [u0] [] ∧
          ((decide ((IntKind.i64.wrap (v4 * x1) : Int) ≤ 65535) = true → (I2 ((x2 + 1)) ((x3 + 1)) ((fun q => if q = x3 then ((FloatKind.f32.nearest (IntKind.i64.wrap (v4 * x1)) : Nat) : Int) else f1 q)) ∧ rk2 ((x2 + 1)) ((x3 + 1)) ((fun q => if q = x3 then ((FloatKind.f32.nearest (IntKind.i64.wrap (v4 * x1)) : Nat) : Int) else f1 q)) < rk2 x2 x3 f1)) ∧
          (decide ((IntKind.i64.wrap (v4 * x1) : Int) ≤ 65535) = false → (((-9223372036854775808) ≤ ((8) : Int) ∧ ((8) : Int) ≤ 9223372036854775807) ∧ ((0 ≤ ((x3) : Int) ∧ ((x3) : Int) ≤ 140737488355328) ∧ R (0) ((8)) ((fun _ => 0)))))))) ∧
         (decide (((f0 x2) : Int) ≤ 65535) = false → (((-9223372036854775808) ≤ ((2) : Int) ∧ ((2) : Int) ≤ 9223372036854775807) ∧ ((0 ≤ ((x3) : Int) ∧ ((x3) : Int) ≤ 140737488355328) ∧ R (0) ((2)) ((fun _ => 0))))))) ∧
        (decide ((0 : Int) ≤ (f0 x2)) = false → (((-9223372036854775808) ≤ ((2) : Int) ∧ ((2) : Int) ≤ 9223372036854775807) ∧ ((0 ≤ ((x3) : Int) ∧ ((x3) : Int) ≤ 140737488355328) ∧ R (0) ((2)) ((fun _ => 0))))))))))))) ∧
     (decide ((x1 : Int) ≤ 1000) = false → R (0) (2) ((fun _ => 0))))) ∧
    (decide ((1 : Int) ≤ x1) = false → R (0) (2) ((fun _ => 0))))) ∧
   (decide ((x0 : Int) ≤ 64) = false → R (0) (8) ((fun _ => 0))))) :
    ∃ v0 : Int, ∃ v1 : Int, ∃ g0 : Int → Int, R v0 v1 g0 ∧ Spec Try.prog meter_Quantised_s ⟨[x0, x1], [], [f0]⟩ [v0, v1] [] [g0] :=
  Eq.mp (by kernel_rfl) (exV_of (K := fun d => app3 meter_Quantised_s.out R d ∧ Spec Try.prog meter_Quantised_s ⟨[x0, x1], [], [f0]⟩ d.1 d.2.1 d.2.2) (tree_at mixed names S2_ok (S := S2 Try.prog) (lf := 100000) (d := 60) meter_Quantised_s pqu_t { ivs := [(0, 0, 70), (1, (-9223372036854775808), 9223372036854775807)], aivs := [(0, (-9223372036854775808), 9223372036854775807)] } ⟨[x0, x1], [], [f0]⟩ rfl (by kernel_rfl) (by kernel_rfl) (by kernel_rfl) ⟨(fc r0 (fc r1 fz)), fz, (fc s0 fz), fz⟩ (R := fun d => app3 meter_Quantised_s.out R d) (Eq.mp (by kernel_rfl) H)))

def rqu_t : Tr :=
  (.ite (.icmp .leq (.var 0) (.lit 64))
  (.ite (.icmp .leq (.lit 1) (.var 1))
   (.ite (.icmp .leq (.var 1) (.lit 1000))
    (.loop ⟨22, [0, 1, 0, 1, 1, 1, 1], [(.asl 0 (.var 0)), (.int .i64 (.var 1)), (.tuple []), (.tuple []), (.slice none 0 0), (.int .i64 (.lit 0)), (.slice none 0 0), (.int .i64 (.lit 0)), (.tuple []), (.asl 0 (.var 0)), (.int .i64 (.var 0)), (.bool (.icmp .gtr (.var 0) (.lit 64))), (.int .i64 (.var 1)), (.bool (.icmp .leq (.var 1) (.lit 1000))), (.bool (.not (.icmp .leq (.var 1) (.lit 1000)))), (.tuple []), (.tuple []), (.tuple []), (.tuple []), (.tuple []), (.tuple []), (.tuple []), (.tuple []), (.tuple []), (.tuple []), (.tuple []), (.tuple []), (.tuple []), (.tuple []), (.tuple []), (.tuple []), (.tuple []), (.tuple []), (.tuple []), (.tuple []), (.tuple []), (.tuple []), (.tuple []), (.tuple []), (.tuple []), (.tuple []), (.tuple []), (.tuple []), (.tuple []), (.tuple []), (.tuple []), (.tuple [])], [(some ⟨[], 3, true, false, (some ⟨(.var 0), [(.int .i64)], [(.avar 0)]⟩)⟩)], [(.gh 6 65 [(.float .f32)])], [(.asl 0 (.var 0)), (.int .i64 (.var 1)), (.tuple []), (.tuple []), (.slice none 0 0), (.int .i64 (.lit 0)), (.asl 1 (.var 3)), (.int .i64 (.var 2)), (.any 8), (.asl 0 (.var 0)), (.int .i64 (.var 0)), (.bool (.icmp .gtr (.var 0) (.lit 64))), (.int .i64 (.var 1)), (.bool (.icmp .leq (.var 1) (.lit 1000))), (.bool (.not (.icmp .leq (.var 1) (.lit 1000)))), (.any 15), (.any 16), (.any 17), (.any 18), (.any 19), (.any 20), (.any 21), (.any 22), (.any 23), (.any 24), (.any 25), (.any 26), (.any 27), (.any 28), (.any 29), (.any 30), (.any 31), (.any 32), (.any 33), (.any 34), (.any 35), (.any 36), (.any 37), (.any 38), (.any 39), (.any 40), (.any 41), (.any 42), (.any 43), (.any 44), (.any 45), (.tuple [])], [(some ⟨[], 3, true, false, (some ⟨(.var 0), [(.int .i64)], [(.avar 0)]⟩)⟩), (some ⟨[], 65, false, true, (some ⟨(.var 3), [(.float .f32)], [(.avar 1)]⟩)⟩)], [], ⟨2, 0, 1⟩, ⟨[(.lit 0), (.lit 0)], [], [(.acst (.lit 0))]⟩, [1]⟩
     (.rng 2 0 70 (.rng 3 0 70 (.ite (.icmp .leq (.var 0) (.var 2))
      (.out 1 ⟨[(.var 3)], [], [(.avar 1)]⟩ [1])
      (.ite (.icmp .leq (.lit 0) (.sel (.avar 0) (.var 2)))
       (.ite (.icmp .leq (.sel (.avar 0) (.var 2)) (.lit 65535))
        (.call etalonbase_Floor_s ⟨[(.bin (.addW .i64) (.bin (.mulW .i64) (.lit 2) (.sel (.avar 0) (.var 2))) (.var 1)), (.bin .mulI (.lit 2) (.var 1))], [], []⟩ ⟨[(.bin (.addW .i64) (.bin (.mulW .i64) (.lit 2) (.sel (.avar 0) (.var 2))) (.var 1)), (.bin .mulI (.lit 2) (.var 1)), (.var 4)], [], []⟩ ⟨45, [(.int .i64 (.bin (.addW .i64) (.bin (.mulW .i64) (.lit 2) (.sel (.avar 0) (.var 2))) (.var 1))), (.int .i64 (.bin .mulI (.lit 2) (.var 1)))], [], [none, none], (.int .i64 (.var 4)), []⟩
         (.ite (.icmp .leq (.bin (.mulW .i64) (.var 4) (.var 1)) (.lit 65535))
         (.next ⟨[(.bin .addI (.var 2) (.lit 1)), (.bin .addI (.var 3) (.lit 1))], [], [(.aupd (.avar 1) (.var 3) (.toF .f32 (.bin (.mulW .i64) (.var 4) (.var 1))))]⟩ [3])
         (.out 0 ⟨[(.lit 8), (.var 3)], [], [(.avar 1)]⟩ [1])))
        (.out 0 ⟨[(.lit 2), (.var 3)], [], [(.avar 1)]⟩ [1]))
       (.out 0 ⟨[(.lit 2), (.var 3)], [], [(.avar 1)]⟩ [1])))))
     (.ex (.ret, [(.asl 0 (.var 0)), (.int .i64 (.var 1)), (.tuple []), (.tuple []), (.slice none 0 0), (.int .i64 (.var 2)), (.asl 1 (.var 3)), (.any 7), (.any 8), (.asl 0 (.var 0)), (.int .i64 (.var 0)), (.bool (.icmp .gtr (.var 0) (.lit 64))), (.int .i64 (.var 1)), (.bool (.icmp .leq (.var 1) (.lit 1000))), (.bool (.not (.icmp .leq (.var 1) (.lit 1000)))), (.any 15), (.any 16), (.any 17), (.any 18), (.any 19), (.any 20), (.any 21), (.any 22), (.any 23), (.any 24), (.any 25), (.any 26), (.any 27), (.any 28), (.any 29), (.any 30), (.any 31), (.any 32), (.any 33), (.any 34), (.any 35), (.any 36), (.any 37), (.any 38), (.any 39), (.any 40), (.any 41), (.any 42), (.any 43), (.any 44), (.any 45), (.tuple [])], [(some ⟨[], 3, true, false, (some ⟨(.var 0), [(.int .i64)], [(.avar 0)]⟩)⟩), (some ⟨[], 65, false, true, (some ⟨(.var 3), [(.float .f32)], [(.avar 1)]⟩)⟩)], []) ⟨2, 0, 1⟩
     (.rng 2 (-9223372036854775808) 9223372036854775807 (.rng 3 0 140737488355328 (.ret ⟨[(.lit 0), (.var 2)], [], [(.acst (.lit 0))]⟩ [1])))
     (.ex ((.exit 0), [(.asl 0 (.var 0)), (.int .i64 (.var 1)), (.tuple []), (.tuple []), (.slice none 0 0), (.int .i64 (.lit 0)), (.asl 1 (.var 2)), (.any 7), (.any 8), (.asl 0 (.var 0)), (.int .i64 (.var 0)), (.bool (.icmp .gtr (.var 0) (.lit 64))), (.int .i64 (.var 1)), (.bool (.icmp .leq (.var 1) (.lit 1000))), (.bool (.not (.icmp .leq (.var 1) (.lit 1000)))), (.any 15), (.any 16), (.any 17), (.any 18), (.any 19), (.any 20), (.any 21), (.any 22), (.any 23), (.any 24), (.any 25), (.any 26), (.any 27), (.any 28), (.any 29), (.any 30), (.any 31), (.any 32), (.any 33), (.any 34), (.any 35), (.any 36), (.any 37), (.any 38), (.any 39), (.any 40), (.any 41), (.any 42), (.any 43), (.any 44), (.any 45), (.tuple [])], [(some ⟨[], 3, true, false, (some ⟨(.var 0), [(.int .i64)], [(.avar 0)]⟩)⟩), (some ⟨[], 65, false, true, (some ⟨(.var 2), [(.float .f32)], [(.avar 1)]⟩)⟩)], []) ⟨1, 0, 1⟩
     (.rng 2 0 140737488355328 (.ret ⟨[(.var 2), (.lit 0)], [], [(.avar 1)]⟩ [1]))
     .nil)))
    (.ret ⟨[(.lit 0), (.lit 2)], [], [(.acst (.lit 0))]⟩ [1]))
   (.ret ⟨[(.lit 0), (.lit 2)], [], [(.acst (.lit 0))]⟩ [1]))
  (.ret ⟨[(.lit 0), (.lit 8)], [], [(.acst (.lit 0))]⟩ [1]))
theorem rqu {x0 x1 : Int} {f0 : Int → Int} (r0 : 0 ≤ x0 ∧ x0 ≤ 70) (r1 : (-9223372036854775808) ≤ x1 ∧ x1 ≤ 9223372036854775807) (s0 : ∀ q, (-9223372036854775808) ≤ f0 q ∧ f0 q ≤ 9223372036854775807) {R : Int → Int → (Int → Int) → Prop}
  (H : ((decide ((x0 : Int) ≤ 64) = true → ((decide ((1 : Int) ≤ x1) = true → ((decide ((x1 : Int) ≤ 1000) = true → (∃ (I2 : Int → Int → (Int → Int) → Prop) (rk2 : Int → Int → (Int → Int) → Nat), I2 (0) (0) ((fun _ => 0)) ∧
      (∀ x2 : Int, ∀ x3 : Int, ∀ f1 : Int → Int, I2 x2 x3 f1 → ((0 ≤ (x2 : Int) ∧ (x2 : Int) ≤ 70) ∧ ((0 ≤ (x3 : Int) ∧ (x3 : Int) ≤ 70) ∧ ((decide ((x0 : Int) ≤ x2) = true → ((0 ≤ ((x3) : Int) ∧ ((x3) : Int) ≤ 140737488355328) ∧ R ((x3)) (0) (f1))) ∧
       (decide ((x0 : Int) ≤ x2) = false → ((decide ((0 : Int) ≤ (f0 x2)) = true → ((decide (((f0 x2) : Int) ≤ 65535) = true → (∃ v4 : Int, Spec Try.prog etalonbase_Floor_s ⟨[IntKind.i64.wrap (IntKind.i64.wrap (2 * (f0 x2)) + x1), (2 * x1)], [], []⟩ [v4] [] [] ∧
          ((decide ((IntKind.i64.wrap (v4 * x1) : Int) ≤ 65535) = true → (I2 ((x2 + 1)) ((x3 + 1)) ((fun q => if q = x3 then ((FloatKind.f32.nearest (IntKind.i64.wrap (v4 * x1)) : Nat) : Int) else f1 q)) ∧ rk2 ((x2 + 1)) ((x3 + 1)) ((fun q => if q = x3 then ((FloatKind.f32.nearest (IntKind.i64.wrap (v4 * x1)) : Nat) : Int) else f1 q)) < rk2 x2 x3 f1)) ∧
          (decide ((IntKind.i64.wrap (v4 * x1) : Int) ≤ 65535) = false → (((-9223372036854775808) ≤ ((8) : Int) ∧ ((8) : Int) ≤ 9223372036854775807) ∧ ((0 ≤ ((x3) : Int) ∧ ((x3) : Int) ≤ 140737488355328) ∧ R (0) ((8)) ((fun _ => 0)))))))) ∧
         (decide (((f0 x2) : Int) ≤ 65535) = false → (((-9223372036854775808) ≤ ((2) : Int) ∧ ((2) : Int) ≤ 9223372036854775807) ∧ ((0 ≤ ((x3) : Int) ∧ ((x3) : Int) ≤ 140737488355328) ∧ R (0) ((2)) ((fun _ => 0))))))) ∧
        (decide ((0 : Int) ≤ (f0 x2)) = false → (((-9223372036854775808) ≤ ((2) : Int) ∧ ((2) : Int) ≤ 9223372036854775807) ∧ ((0 ≤ ((x3) : Int) ∧ ((x3) : Int) ≤ 140737488355328) ∧ R (0) ((2)) ((fun _ => 0))))))))))))) ∧
     (decide ((x1 : Int) ≤ 1000) = false → R (0) (2) ((fun _ => 0))))) ∧
    (decide ((1 : Int) ≤ x1) = false → R (0) (2) ((fun _ => 0))))) ∧
   (decide ((x0 : Int) ≤ 64) = false → R (0) (8) ((fun _ => 0))))) :
    ∃ v0 : Int, ∃ v1 : Int, ∃ g0 : Int → Int, R v0 v1 g0 ∧ Spec Try.prog etalonref06_Quantised_s ⟨[x0, x1], [], [f0]⟩ [v0, v1] [] [g0] :=
  Eq.mp (by kernel_rfl) (exV_of (K := fun d => app3 etalonref06_Quantised_s.out R d ∧ Spec Try.prog etalonref06_Quantised_s ⟨[x0, x1], [], [f0]⟩ d.1 d.2.1 d.2.2) (tree_at mixed names S2_ok (S := S2 Try.prog) (lf := 100000) (d := 60) etalonref06_Quantised_s rqu_t { ivs := [(0, 0, 70), (1, (-9223372036854775808), 9223372036854775807)], aivs := [(0, (-9223372036854775808), 9223372036854775807)] } ⟨[x0, x1], [], [f0]⟩ rfl (by kernel_rfl) (by kernel_rfl) (by kernel_rfl) ⟨(fc r0 (fc r1 fz)), fz, (fc s0 fz), fz⟩ (R := fun d => app3 etalonref06_Quantised_s.out R d) (Eq.mp (by kernel_rfl) H)))

section

variable {x0 x1 : Int} {f0 : Int → Int}

/-- The nearest multiple of a step. -/

def qz (l s : Int) : Int := rdiv l s * s

theorem qz_bd {l s : Int} (h : 1 ≤ s) : 2 * qz l s ≤ 2 * l + s ∧ 2 * l - s ≤ 2 * qz l s := by

  unfold qz rdiv

  have e1 := Int.mul_ediv_add_emod (2 * l + s) (2 * s)

  have e2 := Int.emod_nonneg (2 * l + s) (show 2 * s ≠ 0 by omega)

  have e3 := Int.emod_lt_of_pos (2 * l + s) (show 0 < 2 * s by omega)

  have e4 : 2 * s * ((2 * l + s) / (2 * s)) = 2 * ((2 * l + s) / (2 * s) * s) := by rw [Int.mul_assoc, Int.mul_comm s]

  omega

theorem rdiv_nn {l s : Int} (h : 1 ≤ s) (hl : 0 ≤ l) : 0 ≤ rdiv l s := by unfold rdiv; exact Int.ediv_nonneg (by omega) (by omega)

theorem qz_nn {l s : Int} (h : 1 ≤ s) (hl : 0 ≤ l) : 0 ≤ qz l s := Int.mul_nonneg (rdiv_nn h hl) (by omega)

def quRow (f0 : Int → Int) (s i : Int) : Int := if ¬ (0 ≤ f0 i ∧ f0 i ≤ 65535) then 2 else if ¬ qz (f0 i) s ≤ 65535 then 8 else 0

def quE (x0 x1 : Int) (f0 : Int → Int) : Int := if ¬ x0 ≤ 64 then 8 else if ¬ (1 ≤ x1 ∧ x1 ≤ 1000) then 2 else (rst (quRow f0 x1) x0.toNat 0).2

def qrow (f0 : Int → Int) (s : Int) : Nat → (Int → Int)

  | 0 => fun _ => 0

  | k + 1 => fun q => if q = (k : Int) then ((FloatKind.f32.nearest (qz (f0 k) s) : Nat) : Int) else qrow f0 s k q

theorem qrow_step {f0 : Int → Int} {s i : Int} (h : 0 ≤ i) : qrow f0 s (i + 1).toNat = fun q => if q = i then ((FloatKind.f32.nearest (qz (f0 i) s) : Nat) : Int) else qrow f0 s i.toNat q := by

  rw [show (i + 1).toNat = i.toNat + 1 by omega, qrow, show ((i.toNat : Nat) : Int) = i by omega]

theorem qrow_at {f0 : Int → Int} {s : Int} : ∀ (k : Nat) (q : Int), 0 ≤ q → q < k → qrow f0 s k q = ((FloatKind.f32.nearest (qz (f0 q) s) : Nat) : Int)

  | 0, q, a, b => by omega

  | k + 1, q, a, b => by

    unfold qrow

    by_cases e : q = (k : Int)

    · rw [if_pos e, e]

    · rw [if_neg e]; exact qrow_at k q a (by omega)

/-- What both answer. -/

def QuR (x0 x1 : Int) (f0 : Int → Int) (v e : Int) (g : Int → Int) : Prop := e = quE x0 x1 f0 ∧ (quE x0 x1 f0 = 0 → v = x0 ∧ g = qrow f0 x1 x0.toNat) ∧ (quE x0 x1 f0 ≠ 0 → v = 0 ∧ g = fun _ => 0)

theorem quR_bad {v : Int} (h : v = quE x0 x1 f0) (h0 : v ≠ 0) : QuR x0 x1 f0 0 v (fun _ => 0) := ⟨h, fun g => absurd (h.trans g) h0, fun _ => ⟨rfl, rfl⟩⟩

set_option maxHeartbeats 1000000 in

theorem quant_p (r0 : 0 ≤ x0 ∧ x0 ≤ 70) (r1 : (-9223372036854775808) ≤ x1 ∧ x1 ≤ 9223372036854775807) (s0 : ∀ q, (-9223372036854775808) ≤ f0 q ∧ f0 q ≤ 9223372036854775807) : ∃ v e g, QuR x0 x1 f0 v e g ∧ Spec Try.prog meter_Quantised_s ⟨[x0, x1], [], [f0]⟩ [v, e] [] [g] := by

  refine pqu r0 r1 s0 (R := fun v e g => QuR x0 x1 f0 v e g) ?_

  simp only [decide_eq_true_eq, decide_eq_false_iff_not]

  refine ⟨fun h1 => ⟨fun h2 => ⟨fun h3 => ?_, fun h3 => ?_⟩, fun h2 => ?_⟩, fun h1 => ?_⟩

  · have hq : quE x0 x1 f0 = (rst (quRow f0 x1) x0.toNat 0).2 := by unfold quE; rw [if_neg (by omega), if_neg (by omega)]

    refine ⟨fun i n g => (0 ≤ i ∧ i ≤ x0) ∧ n = i ∧ g = qrow f0 x1 i.toNat ∧ rst (quRow f0 x1) (x0 - i).toNat i = rst (quRow f0 x1) x0.toNat 0, fun i _ _ => (x0 - i).toNat, ⟨⟨by omega, by omega⟩, rfl, rfl, by rw [Int.sub_zero]⟩, ?_⟩

    rintro i n g ⟨hi, rfl, rfl, hr⟩

    have rk : (x0 - (n + 1)).toNat < (x0 - n).toNat ∨ x0 ≤ n := by omega

    refine ⟨by omega, by omega, fun g => ⟨by omega, ?_⟩, fun g => ?_⟩

    · have e : n = x0 := by omega

      have hz : quE x0 x1 f0 = 0 := by rw [hq, ← hr, show (x0 - n).toNat = 0 by omega]; rfl

      exact ⟨hz.symm, fun _ => ⟨e, by rw [e]⟩, fun h => absurd hz h⟩

    · have st := rst_step (E := quRow f0 x1) (n := x0) (i := n) (by omega)

      have out {e : Int} (h : quRow f0 x1 n = e) (he : e ≠ 0) : e = quE x0 x1 f0 := by

        rw [hq, ← hr, st, if_neg (by rw [h]; exact he), h]

      refine ⟨fun a => ⟨fun b => ?_, fun b => ?_⟩, fun a => ?_⟩

      · have db := qz_bd (l := f0 n) (s := x1) h2

        have dn := qz_nn (l := f0 n) (s := x1) h2 a

        have hw : IntKind.i64.wrap (rdiv (f0 n) x1 * x1) = qz (f0 n) x1 := by rw [ws (n := rdiv (f0 n) x1 * x1) (by show _ ≤ qz (f0 n) x1; omega) (by show qz (f0 n) x1 ≤ _; omega)]; rfl

        have ns := nearest_s (x := f0 n) (y := 1) (d := x1) (DvIn_by (X := 65535) (Y := 1) (by omega) (by omega) (by decide) (by decide) (by omega) (by omega) (by decide) (by decide) (by decide))

        rw [Int.mul_one] at ns

        refine ⟨_, _, ns, ?_⟩

        rw [hw]

        refine ⟨fun c => ⟨⟨⟨by omega, by omega⟩, by trivial, by rw [qrow_step hi.1], ?_⟩, ?_⟩, fun c => ⟨by omega, by omega, quR_bad (out (e := 8) ?_ (by decide)) (by decide)⟩⟩

        · rw [← hr, st, if_pos]

          unfold quRow; rw [if_neg (by omega), if_neg (by omega)]

        · show (x0 - (n + 1)).toNat < (x0 - n).toNat; omega

        · unfold quRow; rw [if_neg (by omega), if_pos (by omega)]

      · exact ⟨by omega, by omega, quR_bad (out (e := 2) (by unfold quRow; rw [if_pos (by omega)]) (by decide)) (by decide)⟩

      · exact ⟨by omega, by omega, quR_bad (out (e := 2) (by unfold quRow; rw [if_pos (by omega)]) (by decide)) (by decide)⟩

  · exact quR_bad (by unfold quE; rw [if_neg (by omega), if_pos (by omega)]) (by decide)

  · exact quR_bad (by unfold quE; rw [if_neg (by omega), if_pos (by omega)]) (by decide)

  · exact quR_bad (by unfold quE; rw [if_pos (by omega)]) (by decide)

set_option maxHeartbeats 1000000 in

theorem quant_r (r0 : 0 ≤ x0 ∧ x0 ≤ 70) (r1 : (-9223372036854775808) ≤ x1 ∧ x1 ≤ 9223372036854775807) (s0 : ∀ q, (-9223372036854775808) ≤ f0 q ∧ f0 q ≤ 9223372036854775807) : ∃ v e g, QuR x0 x1 f0 v e g ∧ Spec Try.prog etalonref06_Quantised_s ⟨[x0, x1], [], [f0]⟩ [v, e] [] [g] := by

  refine rqu r0 r1 s0 (R := fun v e g => QuR x0 x1 f0 v e g) ?_

  simp only [decide_eq_true_eq, decide_eq_false_iff_not]

  refine ⟨fun h1 => ⟨fun h2 => ⟨fun h3 => ?_, fun h3 => ?_⟩, fun h2 => ?_⟩, fun h1 => ?_⟩

  · have hq : quE x0 x1 f0 = (rst (quRow f0 x1) x0.toNat 0).2 := by unfold quE; rw [if_neg (by omega), if_neg (by omega)]

    refine ⟨fun i n g => (0 ≤ i ∧ i ≤ x0) ∧ n = i ∧ g = qrow f0 x1 i.toNat ∧ rst (quRow f0 x1) (x0 - i).toNat i = rst (quRow f0 x1) x0.toNat 0, fun i _ _ => (x0 - i).toNat, ⟨⟨by omega, by omega⟩, rfl, rfl, by rw [Int.sub_zero]⟩, ?_⟩

    rintro i n g ⟨hi, rfl, rfl, hr⟩

    have rk : (x0 - (n + 1)).toNat < (x0 - n).toNat ∨ x0 ≤ n := by omega

    refine ⟨by omega, by omega, fun g => ⟨by omega, ?_⟩, fun g => ?_⟩

    · have e : n = x0 := by omega

      have hz : quE x0 x1 f0 = 0 := by rw [hq, ← hr, show (x0 - n).toNat = 0 by omega]; rfl

      exact ⟨hz.symm, fun _ => ⟨e, by rw [e]⟩, fun h => absurd hz h⟩

    · have st := rst_step (E := quRow f0 x1) (n := x0) (i := n) (by omega)

      have out {e : Int} (h : quRow f0 x1 n = e) (he : e ≠ 0) : e = quE x0 x1 f0 := by

        rw [hq, ← hr, st, if_neg (by rw [h]; exact he), h]

      refine ⟨fun a => ⟨fun b => ?_, fun b => ?_⟩, fun a => ?_⟩

      · have db := qz_bd (l := f0 n) (s := x1) h2

        have dn := qz_nn (l := f0 n) (s := x1) h2 a

        have hw : IntKind.i64.wrap (rdiv (f0 n) x1 * x1) = qz (f0 n) x1 := by rw [ws (n := rdiv (f0 n) x1 * x1) (by show _ ≤ qz (f0 n) x1; omega) (by show qz (f0 n) x1 ≤ _; omega)]; rfl

        have ns := floor_s (n := 2 * f0 n + x1) (d := 2 * x1) (by omega) (by omega)

        rw [ws (n := 2 * f0 n) (by omega) (by omega), ws (n := 2 * f0 n + x1) (by omega) (by omega)]

        refine ⟨_, ns, ?_⟩

        rw [show (2 * f0 n + x1) / (2 * x1) = rdiv (f0 n) x1 from rfl]

        rw [hw]

        refine ⟨fun c => ⟨⟨⟨by omega, by omega⟩, by trivial, by rw [qrow_step hi.1], ?_⟩, ?_⟩, fun c => ⟨by omega, by omega, quR_bad (out (e := 8) ?_ (by decide)) (by decide)⟩⟩

        · rw [← hr, st, if_pos]

          unfold quRow; rw [if_neg (by omega), if_neg (by omega)]

        · show (x0 - (n + 1)).toNat < (x0 - n).toNat; omega

        · unfold quRow; rw [if_neg (by omega), if_pos (by omega)]

      · exact ⟨by omega, by omega, quR_bad (out (e := 2) (by unfold quRow; rw [if_pos (by omega)]) (by decide)) (by decide)⟩

      · exact ⟨by omega, by omega, quR_bad (out (e := 2) (by unfold quRow; rw [if_pos (by omega)]) (by decide)) (by decide)⟩

  · exact quR_bad (by unfold quE; rw [if_neg (by omega), if_pos (by omega)]) (by decide)

  · exact quR_bad (by unfold quE; rw [if_neg (by omega), if_pos (by omega)]) (by decide)

  · exact quR_bad (by unfold quE; rw [if_pos (by omega)]) (by decide)

theorem rst_none {E : Int → Int} : ∀ (k : Nat) (i : Int), (∀ j, i ≤ j → j < i + k → E j = 0) → rst E k i = (0, 0)

  | 0, _, _ => rfl

  | k + 1, i, h => by

    unfold rst

    rw [if_pos (h i (Int.le_refl _) (by omega))]

    exact rst_none k (i + 1) fun j a b => h j (by omega) (by omega)

/-- The samples that were quantised. -/

structure Qok (x0 x1 : Int) (f0 : Int → Int) : Prop where

  few : x0 ≤ 64

  stp : 1 ≤ x1 ∧ x1 ≤ 1000

  bd : ∀ i, 0 ≤ i → i < x0 → (0 ≤ f0 i ∧ f0 i ≤ 65535) ∧ (0 ≤ qz (f0 i) x1 ∧ qz (f0 i) x1 ≤ 65535)

theorem qu_ok (h : quE x0 x1 f0 = 0) : Qok x0 x1 f0 := by

  unfold quE at h

  split at h

  · cases h

  rename_i h1

  split at h

  · cases h

  rename_i h2

  refine ⟨by omega, by omega, fun i a b => ?_⟩

  have r := rst_all _ _ h i a (by omega)

  unfold quRow at r

  split at r

  · cases r

  rename_i h3

  split at r

  · cases r

  rename_i h4

  exact ⟨by omega, qz_nn (by omega) (by omega), by omega⟩

theorem q_row {n : Int} (h : 0 ≤ n ∧ n ≤ 65535) (f : Int → Int) (i : Int) (e : f i = ((FloatKind.f32.nearest n : Nat) : Int)) : scRow f i = 0 ∧ nOf f i = n := by

  obtain ⟨a1, a2, a3, a4⟩ := int32_all h

  obtain ⟨s, m, p, hr, hm⟩ := int32 h

  have a5 : (Ieee.single.order (FloatKind.f32.nearest n) 1199570688 == some .gt) = false := by

    rw [order_of hr read_65535 hm (y := 65535) (by unfold Mi Ieee.signed; decide)]

    have h1 : ¬ 65535 < n := by omega

    by_cases g : n < 65535

    · have : compare n 65535 = Ordering.lt := by simp [compare, compareOfLessAndEq, g]

      rw [this]; rfl

    · have : n = 65535 := by omega

      subst this; decide

  have et : (f i).toNat = FloatKind.f32.nearest n := by rw [e, Int.toNat_natCast]

  have rc := row_cases f i

  rw [et] at rc

  refine ⟨(((rc.2 a1).2 a2).2 a3).2 a5, ?_⟩

  unfold nOf

  exact (cutN (x := f i) (by rw [et]; exact a4)).2

theorem quant_sc {M : Int} (K : Qok x0 x1 f0) (h4 : x0 % 4 = 0 ∧ 4 ≤ x0) (hM : 0 ≤ M ∧ M ≤ 65535) : (scE x0 M 65536 (qrow f0 x1 x0.toNat)).2 = 0 ∧ ∀ i, 0 ≤ i → i < x0 → nOf (qrow f0 x1 x0.toNat) i = qz (f0 i) x1 := by

  have row (i : Int) (a : 0 ≤ i) (b : i < x0) := q_row ((K.bd i a b).2) (qrow f0 x1 x0.toNat) i (qrow_at _ i a (by omega))

  refine ⟨?_, fun i a b => (row i a b).2⟩

  have kf := K.few

  unfold scE

  rw [if_neg (by omega), if_neg (by omega), rst_none _ _ fun j a b => (row j a (by omega)).1]

end

end Go.Proofs.Ytafnplkablkepaa.Ev
