/- Stores of whole balls into variables of a region's own. -/
import Derived.Test.YthkooiopiaakbaaPlay
import Derived.Test.YthkooiopiaakbaaHold
namespace Go.Proofs.Ythkooiopiaakbaa
open Go Go.RowKit

theorem Cells.lasting (l : List (Nat × Array Value)) : Lasting (fun w => Cells w l) := fun _ _ h hb => Cells.below hb h

theorem Hold.setw {B : Nat} {w0 w : World} {l : List (Nat × Array Value)} (h : Hold B w0 l w) {a : Addr} (v : Value) (hb : B ≤ a.block) (hne : ∀ p ∈ l, p.1 ≠ a.block) : Hold B w0 l (w.setCell a v) :=
  ⟨h.below.setCell hb v, Nat.le_trans h.size (by simp [World.setCell]), h.cells.set hne⟩

/-- A store of two cells into a block that the class of worlds does not name. -/
theorem stores_two {P : Program} {B : Nat} {w0 : World} {l L : List (Nat × Array Value)} {b : Nat} {z0 z1 c0 c1 : Value} {o : Oper} {a : Act} (hd : o.dst = none) (hg : o.guard = none) (hs : ∀ cs b, o.op ≠ .select cs b) (hb : B ≤ b) (hne : ∀ p ∈ l, p.1 ≠ b) (hL : ∀ p ∈ L, p.1 ≠ b)
    (run : ∀ w, At w b #[z0, z1] → (execOp a.eval o).run P w = .ok .skip ((w.setCell ⟨b, 0, none⟩ c0).setCell ⟨b, 1, none⟩ c1)) :
    Stores P (Hold B w0 l) (fun w => Cells w ((b, #[z0, z1]) :: L)) (fun w => Cells w ((b, #[c0, c1]) :: L)) o a := by
  refine ⟨hd, hg, hs, Cells.lasting _, fun w h1 h2 => ⟨_, run w h2.1, (h1.setw c0 hb hne).setw c1 hb hne, ⟨?_, ?_⟩, by simp [World.setCell]⟩⟩
  · exact (h2.1.set 0 c0).set 1 c1
  · exact Cells.set (Cells.set h2.2 hL) hL

theorem Cells.sub {w : World} {L' : List (Nat × Array Value)} (h : Cells w L') : ∀ {L : List (Nat × Array Value)}, (∀ p ∈ L, p ∈ L') → Cells w L
  | [], _ => trivial
  | p :: L, hp => ⟨h.of_mem p (hp p (by simp)), Cells.sub h fun q hq => hp q (by simp [hq])⟩
theorem StoSeq.perm {P : Program} {S : World → Prop} {R : Act → World → Prop} {l : List Oper} {L L' : List (Nat × Array Value)} {a : Act} (hp : ∀ p ∈ L, p ∈ L') (h : StoSeq P S R l (fun w => Cells w L) a) : StoSeq P S R l (fun w => Cells w L') a :=
  StoSeq.mono l _ _ a (fun w hw => Cells.sub hw hp) h
theorem Hold.app {B : Nat} {w0 w : World} {l : List (Nat × Array Value)} (h : Hold B w0 l w) : ∀ {L : List (Nat × Array Value)}, Cells w L → Hold B w0 (L ++ l) w
  | [], _ => h
  | p :: L, hc => ⟨h.below, h.size, hc.1, (Hold.app h hc.2).cells⟩
end Go.Proofs.Ythkooiopiaakbaa
