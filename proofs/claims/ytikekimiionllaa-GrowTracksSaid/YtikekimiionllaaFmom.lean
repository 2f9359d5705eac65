/- What the moments of a track are. -/
import Derived.Test.YtikekimiionllaaFtrk
namespace Go.Proofs.Ytikekimiionllaa.Ev
set_option linter.unusedSimpArgs false
open Go Go.RowKit
set_option linter.unusedVariables false
set_option maxRecDepth 100000
def grow_moments_s : Sig := ⟨27, ⟨4, 0, 2⟩, ⟨1, 0, 3⟩, [(.agg [(.int .i64 (.var 0)), (.int .i64 (.var 1)), (.int .i64 (.var 2)), (.asl 0 (.var 3))])], [(some ⟨[], 77, true, false, (some ⟨(.var 3), [(.int .i64), (.int .i64)], [(.avar 0), (.avar 1)]⟩)⟩)], (.asl 1 (.var 4)), [(some ⟨[], 82, false, true, (some ⟨(.var 4), [(.int .i64), (.int .i64), (.int .i64)], [(.avar 2), (.avar 3), (.avar 4)]⟩)⟩)]⟩

def mo_t : Tr :=
  (.loop ⟨27, [0, 1, 0, 1, 1], [(.agg [(.int .i64 (.var 0)), (.int .i64 (.var 1)), (.int .i64 (.var 2)), (.asl 0 (.var 3))]), (.ptr (some ⟨1, 0, none⟩)), (.slice none 0 0), (.slice (some ⟨2, 0, none⟩) 1 1), (.tuple []), (.tuple []), (.agg [(.int .i64 (.lit 0)), (.int .i64 (.lit 0)), (.int .i64 (.lit 0))]), (.slice (some ⟨2, 0, none⟩) 1 1), (.ptr (some ⟨1, 3, none⟩)), (.asl 0 (.var 3)), (.int .i64 (.var 3)), (.int .i64 (.lit 0)), (.tuple []), (.tuple []), (.tuple []), (.tuple []), (.tuple []), (.tuple []), (.tuple []), (.tuple []), (.tuple []), (.tuple []), (.tuple []), (.tuple []), (.tuple []), (.tuple []), (.tuple []), (.tuple []), (.tuple []), (.tuple []), (.tuple []), (.tuple []), (.tuple []), (.tuple []), (.tuple []), (.tuple [])], [(some ⟨[], 77, true, false, (some ⟨(.var 3), [(.int .i64), (.int .i64)], [(.avar 0), (.avar 1)]⟩)⟩), (some ⟨[(.int .i64 (.var 0)), (.int .i64 (.var 1)), (.int .i64 (.var 2)), (.asl 0 (.var 3))], 26, false, false, none⟩), (some ⟨[(.int .i64 (.lit 0)), (.int .i64 (.lit 0)), (.int .i64 (.lit 0))], 82, false, false, none⟩)], [(.row 3 82 [(.int .i64), (.int .i64), (.int .i64)])], [(.agg [(.int .i64 (.var 0)), (.int .i64 (.var 1)), (.int .i64 (.var 2)), (.asl 0 (.var 3))]), (.ptr (some ⟨1, 0, none⟩)), (.slice none 0 0), (.asl 3 (.var 5)), (.tuple []), (.any 5), (.agg [(.int .i64 (.lit 0)), (.int .i64 (.lit 0)), (.int .i64 (.lit 0))]), (.any 7), (.ptr (some ⟨1, 3, none⟩)), (.asl 0 (.var 3)), (.int .i64 (.var 3)), (.int .i64 (.var 4)), (.any 12), (.any 13), (.any 14), (.any 15), (.any 16), (.any 17), (.any 18), (.any 19), (.any 20), (.any 21), (.any 22), (.any 23), (.any 24), (.any 25), (.any 26), (.any 27), (.any 28), (.any 29), (.any 30), (.any 31), (.any 32), (.any 33), (.any 34), (.tuple [])], [(some ⟨[], 77, true, false, (some ⟨(.var 3), [(.int .i64), (.int .i64)], [(.avar 0), (.avar 1)]⟩)⟩), (some ⟨[(.int .i64 (.var 0)), (.int .i64 (.var 1)), (.int .i64 (.var 2)), (.asl 0 (.var 3))], 26, false, false, none⟩), none, (some ⟨[], 82, false, true, (some ⟨(.var 5), [(.int .i64), (.int .i64), (.int .i64)], [(.avar 2), (.avar 3), (.avar 4)]⟩)⟩)], [2], ⟨2, 0, 3⟩, ⟨[(.lit 0), (.lit 1)], [], [(.aupd (.acst (.lit 0)) (.lit 0) (.lit 0)), (.aupd (.acst (.lit 0)) (.lit 0) (.lit 0)), (.aupd (.acst (.lit 0)) (.lit 0) (.lit 0))]⟩, [3]⟩
  (.arng 2 (-9223372036854775808) 9223372036854775807 (.arng 3 (-9223372036854775808) 9223372036854775807 (.arng 4 (-9223372036854775808) 9223372036854775807 (.rng 4 0 41 (.rng 5 0 41 (.ite (.icmp .leq (.var 3) (.var 4))
   (.out 0 ⟨[(.var 5)], [], [(.avar 2), (.avar 3), (.avar 4)]⟩ [3])
   (.next ⟨[(.bin .addI (.var 4) (.lit 1)), (.bin .addI (.var 5) (.lit 1))], [], [(.aupd (.avar 2) (.var 5) (.sel (.avar 0) (.var 4))), (.aupd (.avar 3) (.var 5) (.bin (.mulW .i64) (.bin (.subW .i64) (.sel (.avar 1) (.var 4)) (.var 2)) (.lit 1000))), (.aupd (.avar 4) (.var 5) (.bin (.mulW .i64) (.bin (.addW .i64) (.sel (.avar 1) (.var 4)) (.var 2)) (.lit 1000)))]⟩ [6])))))))
  (.ex ((.exit 0), [(.agg [(.int .i64 (.var 0)), (.int .i64 (.var 1)), (.int .i64 (.var 2)), (.asl 0 (.var 3))]), (.ptr (some ⟨1, 0, none⟩)), (.slice none 0 0), (.asl 3 (.var 4)), (.tuple []), (.any 5), (.agg [(.int .i64 (.lit 0)), (.int .i64 (.lit 0)), (.int .i64 (.lit 0))]), (.any 7), (.ptr (some ⟨1, 3, none⟩)), (.asl 0 (.var 3)), (.int .i64 (.var 3)), (.any 11), (.any 12), (.any 13), (.any 14), (.any 15), (.any 16), (.any 17), (.any 18), (.any 19), (.any 20), (.any 21), (.any 22), (.any 23), (.any 24), (.any 25), (.any 26), (.any 27), (.any 28), (.any 29), (.any 30), (.any 31), (.any 32), (.any 33), (.any 34), (.tuple [])], [(some ⟨[], 77, true, false, (some ⟨(.var 3), [(.int .i64), (.int .i64)], [(.avar 0), (.avar 1)]⟩)⟩), (some ⟨[(.int .i64 (.var 0)), (.int .i64 (.var 1)), (.int .i64 (.var 2)), (.asl 0 (.var 3))], 26, false, false, none⟩), none, (some ⟨[], 82, false, true, (some ⟨(.var 4), [(.int .i64), (.int .i64), (.int .i64)], [(.avar 2), (.avar 3), (.avar 4)]⟩)⟩)], [2]) ⟨1, 0, 3⟩
  (.arng 2 (-9223372036854775808) 9223372036854775807 (.arng 3 (-9223372036854775808) 9223372036854775807 (.arng 4 (-9223372036854775808) 9223372036854775807 (.rng 4 0 140737488355328 (.ret ⟨[(.var 4)], [], [(.avar 2), (.avar 3), (.avar 4)]⟩ [3])))))
  .nil))
theorem mo {x0 x1 x2 x3 : Int} {f0 f1 : Int → Int} (r0 : (-9223372036854775808) ≤ x0 ∧ x0 ≤ 9223372036854775807) (r1 : (-9223372036854775808) ≤ x1 ∧ x1 ≤ 9223372036854775807) (r2 : 0 ≤ x2 ∧ x2 ≤ 1000000) (r3 : 0 ≤ x3 ∧ x3 ≤ 40) (s0 : ∀ q, (-9223372036854775808) ≤ f0 q ∧ f0 q ≤ 9223372036854775807) (s1 : ∀ q, (-9223372036854775808) ≤ f1 q ∧ f1 q ≤ 9223372036854775807) {R : Int → (Int → Int) → (Int → Int) → (Int → Int) → Prop}
  (H : (∃ (I4 : Int → Int → (Int → Int) → (Int → Int) → (Int → Int) → Prop) (rk4 : Int → Int → (Int → Int) → (Int → Int) → (Int → Int) → Nat), I4 (0) (1) ((fun q => if q = 0 then 0 else (fun _ => 0) q)) ((fun q => if q = 0 then 0 else (fun _ => 0) q)) ((fun q => if q = 0 then 0 else (fun _ => 0) q)) ∧
   (∀ x4 : Int, ∀ x5 : Int, ∀ f2 : Int → Int, ∀ f3 : Int → Int, ∀ f4 : Int → Int, I4 x4 x5 f2 f3 f4 → ((∀ q, (-9223372036854775808) ≤ f2 q ∧ f2 q ≤ 9223372036854775807) ∧ ((∀ q, (-9223372036854775808) ≤ f3 q ∧ f3 q ≤ 9223372036854775807) ∧ ((∀ q, (-9223372036854775808) ≤ f4 q ∧ f4 q ≤ 9223372036854775807) ∧ ((0 ≤ (x4 : Int) ∧ (x4 : Int) ≤ 41) ∧ ((0 ≤ (x5 : Int) ∧ (x5 : Int) ≤ 41) ∧ ((decide ((x3 : Int) ≤ x4) = true → ((∀ q, (-9223372036854775808) ≤ f2 q ∧ f2 q ≤ 9223372036854775807) ∧ ((∀ q, (-9223372036854775808) ≤ f3 q ∧ f3 q ≤ 9223372036854775807) ∧ ((∀ q, (-9223372036854775808) ≤ f4 q ∧ f4 q ≤ 9223372036854775807) ∧ ((0 ≤ ((x5) : Int) ∧ ((x5) : Int) ≤ 140737488355328) ∧ R ((x5)) (f2) (f3) (f4)))))) ∧
    (decide ((x3 : Int) ≤ x4) = false → (I4 ((x4 + 1)) ((x5 + 1)) ((fun q => if q = x5 then (f0 x4) else f2 q)) ((fun q => if q = x5 then IntKind.i64.wrap (IntKind.i64.wrap ((f1 x4) - x2) * 1000) else f3 q)) ((fun q => if q = x5 then IntKind.i64.wrap (IntKind.i64.wrap ((f1 x4) + x2) * 1000) else f4 q)) ∧ rk4 ((x4 + 1)) ((x5 + 1)) ((fun q => if q = x5 then (f0 x4) else f2 q)) ((fun q => if q = x5 then IntKind.i64.wrap (IntKind.i64.wrap ((f1 x4) - x2) * 1000) else f3 q)) ((fun q => if q = x5 then IntKind.i64.wrap (IntKind.i64.wrap ((f1 x4) + x2) * 1000) else f4 q)) < rk4 x4 x5 f2 f3 f4))))))))))) :
    ∃ v0 : Int, ∃ g0 : Int → Int, ∃ g1 : Int → Int, ∃ g2 : Int → Int, R v0 g0 g1 g2 ∧ Spec Try.prog grow_moments_s ⟨[x0, x1, x2, x3], [], [f0, f1]⟩ [v0] [] [g0, g1, g2] :=
  Eq.mp (by kernel_rfl) (exV_of (K := fun d => app3 grow_moments_s.out R d ∧ Spec Try.prog grow_moments_s ⟨[x0, x1, x2, x3], [], [f0, f1]⟩ d.1 d.2.1 d.2.2) (tree_at mixed names S1_ok (S := S1 Try.prog) (lf := 100000) (d := 60) grow_moments_s mo_t { ivs := [(0, (-9223372036854775808), 9223372036854775807), (1, (-9223372036854775808), 9223372036854775807), (2, 0, 1000000), (3, 0, 40)], aivs := [(0, (-9223372036854775808), 9223372036854775807), (1, (-9223372036854775808), 9223372036854775807)] } ⟨[x0, x1, x2, x3], [], [f0, f1]⟩ rfl (by kernel_rfl) (by kernel_rfl) (by kernel_rfl) ⟨(fc r0 (fc r1 (fc r2 (fc r3 fz)))), fz, (fc s0 (fc s1 fz)), fz⟩ (R := fun d => app3 grow_moments_s.out R d) (Eq.mp (by kernel_rfl) H)))

theorem wrap_small {x : Int} (h : -9223372036854775808 ≤ x ∧ x ≤ 9223372036854775807) : IntKind.i64.wrap x = x := by

  rw [IntKind.wrap_i64]; omega

/-- What the moments of a track are: the beginning, then its readings. -/

def momentsOf (x2 x3 : Int) (f0 f1 : Int → Int) (v : Int) (g0 g1 g2 : Int → Int) : Prop := v = x3 + 1 ∧ (g0 0 = 0 ∧ g1 0 = 0 ∧ g2 0 = 0) ∧ (∀ q, 0 ≤ q → q < x3 → g0 (q + 1) = f0 q ∧ g1 (q + 1) = (f1 q - x2) * 1000 ∧ g2 (q + 1) = (f1 q + x2) * 1000) ∧ (∀ q, I64 (g0 q)) ∧ (∀ q, I64 (g1 q)) ∧ (∀ q, I64 (g2 q))

theorem moments {x0 x1 x2 x3 : Int} {f0 f1 : Int → Int} (r0 : I64 x0) (r1 : I64 x1) (r2 : 0 ≤ x2 ∧ x2 ≤ 1000000) (r3 : 0 ≤ x3 ∧ x3 ≤ 40) (s0 : ∀ q, I64 (f0 q)) (s1 : ∀ q, I64 (f1 q)) (hf : ∀ q, 0 ≤ q → q < x3 → 0 ≤ f1 q ∧ f1 q ≤ 1000000) :

    ∃ v g0 g1 g2, momentsOf x2 x3 f0 f1 v g0 g1 g2 ∧ Spec Try.prog grow_moments_s ⟨[x0, x1, x2, x3], [], [f0, f1]⟩ [v] [] [g0, g1, g2] := by

  refine mo r0 r1 r2 r3 s0 s1 (R := momentsOf x2 x3 f0 f1) ?_

  simp only [decide_eq_true_eq, decide_eq_false_iff_not]

  refine ⟨fun i n g0 g1 g2 => (0 ≤ i ∧ i ≤ x3) ∧ n = i + 1 ∧ (g0 0 = 0 ∧ g1 0 = 0 ∧ g2 0 = 0) ∧ (∀ q, 0 ≤ q → q < i → g0 (q + 1) = f0 q ∧ g1 (q + 1) = (f1 q - x2) * 1000 ∧ g2 (q + 1) = (f1 q + x2) * 1000) ∧ (∀ q, I64 (g0 q)) ∧ (∀ q, I64 (g1 q)) ∧ (∀ q, I64 (g2 q)), fun i n g0 g1 g2 => (x3 - i).toNat, ?_, ?_⟩

  · refine ⟨by omega, by omega, ⟨by simp, by simp, by simp⟩, fun q h1 h2 => by omega, ?_, ?_, ?_⟩ <;> (intro q; simp only [ite_self]; exact ⟨by decide, by decide⟩)

  · rintro i n g0 g1 g2 ⟨hi, hn, hz, hq, b0, b1, b2⟩

    refine ⟨b0, b1, b2, by omega, by omega, fun h => ⟨b0, b1, b2, by omega, ?_⟩, fun h => ⟨⟨by omega, by omega, ?_, ?_, ?_, ?_, ?_⟩, ?_⟩⟩

    · have e : i = x3 := by omega

      subst e

      exact ⟨hn, hz, hq, b0, b1, b2⟩

    · exact ⟨(if_neg (by omega)).trans hz.1, (if_neg (by omega)).trans hz.2.1, (if_neg (by omega)).trans hz.2.2⟩

    · intro q h1 h2; dsimp only

      obtain ⟨k1, k2⟩ := hf i hi.1 (by omega)

      by_cases e : q = i

      · subst e

        rw [if_pos (by omega), if_pos (by omega), if_pos (by omega)]

        have w1 : IntKind.i64.wrap (f1 q - x2) = f1 q - x2 := wrap_small (by omega)

        have w2 : IntKind.i64.wrap (f1 q + x2) = f1 q + x2 := wrap_small (by omega)

        exact ⟨rfl, by rw [w1]; exact wrap_small (by omega), by rw [w2]; exact wrap_small (by omega)⟩

      · rw [if_neg (by omega), if_neg (by omega), if_neg (by omega)]

        exact hq q h1 (by omega)

    · intro q; dsimp only; split

      · exact s0 i

      · exact b0 q

    · obtain ⟨k1, k2⟩ := hf i hi.1 (by omega)

      intro q; dsimp only; split

      · have w1 : IntKind.i64.wrap (f1 i - x2) = f1 i - x2 := wrap_small (by omega)

        rw [w1, wrap_small (by omega)]; exact ⟨by omega, by omega⟩

      · exact b1 q

    · obtain ⟨k1, k2⟩ := hf i hi.1 (by omega)

      intro q; dsimp only; split

      · have w2 : IntKind.i64.wrap (f1 i + x2) = f1 i + x2 := wrap_small (by omega)

        rw [w2, wrap_small (by omega)]; exact ⟨by omega, by omega⟩

      · exact b2 q

    · show (x3 - (i + 1)).toNat < (x3 - i).toNat

      omega

end Go.Proofs.Ytikekimiionllaa.Ev
