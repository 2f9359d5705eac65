/- What the program answers of unit numbers that are parts of a turn, told as a computation on whole numbers. -/
import Derived.Test.YthkooiopiaakbaaRooa
import Derived.Test.YthkooiopiaakbaaDira
import Derived.Test.YthkooiopiaakbaaArc
import Derived.Test.YthkooiopiaakbaaNear
namespace Go.Proofs.Ythkooiopiaakbaa
open Go.RowKit Go.Lib
set_option linter.unusedVariables false

def uLo3 (n d : Int) : Int := n * 4194304 / d
def uHi3 (n d : Int) : Int := cdiv (n * 4194304) d
def un3 (i n : Int) : Int × Int × Int := (rdiv (dir1 ((uLo3 i n + uHi3 i n) / 2 % 4194304)).1 64, rdiv (dir1 ((uLo3 i n + uHi3 i n) / 2 % 4194304)).2 64, arcR (uLo3 i n) (uHi3 i n))
def plus3 (p q : Int × Int × Int) : Int × Int × Int := (p.1 + q.1, p.2.1 + q.2.1, p.2.2 + q.2.2)
def tim3 (p q : Int × Int × Int) : Int × Int × Int := (prodX p.1 p.2.1 q.1 q.2.1, prodY p.1 p.2.1 q.1 q.2.1, prodR p.1 p.2.1 q.1 q.2.1 p.2.2 q.2.2)
def root3 (p : Int × Int × Int) : Int × Int × Int := (rtX p.1 p.2.1, rtY p.1 p.2.1, rtR p.1 p.2.1 p.2.2)
def ok3 (p : Int × Int × Int) : Bool := ckB p.1 p.2.1 p.2.2 == 0
def in3 (p : Int × Int × Int) (x y : Int) : Bool := decide (sq2 (p.1 - x) (p.2.1 - y) ≤ p.2.2 * p.2.2)
def meet3 (p q : Int × Int × Int) : Bool := meetsB p.1 p.2.1 p.2.2 q.1 q.2.1 q.2.2

/-- The sum of the next k unit numbers, if all are balls. -/
def sms (n : Int) : Nat → Int → Int × Int × Int → Option (Int × Int × Int)
  | 0, _, acc => some acc
  | k + 1, i, acc => if ok3 (un3 i n) && ok3 (plus3 acc (un3 i n)) then sms n k (i + 1) (plus3 acc (un3 i n)) else none
def pws (u : Int × Int × Int) : Nat → Int × Int × Int → Option (Int × Int × Int)
  | 0, acc => some acc
  | k + 1, acc => if ok3 (tim3 acc u) then pws u k (tim3 acc u) else none

def sumB (n : Nat) : Bool := match sms n n 0 (0, 0, 0) with
  | some s => in3 s 0 0
  | none => false
def powB (n k : Nat) : Bool := ok3 (un3 k n) && match pws (un3 k n) n (1048576, 0, 0) with
  | some p => in3 p 1048576 0
  | none => false
def halfB (n k : Nat) : Bool := decide ((n : Int) - 1 ≤ 2 * k) || (decide (¬ dn (un3 k n).1 (un3 k n).2.1 ≤ (un3 k n).2.2) && (decide (¬ ((un3 k n).1 < 0 ∧ szB (un3 k n).2.1 (un3 k n).2.2 = true ∧ (un3 k n).2.2 ≠ 0)) &&
  (ok3 (root3 (un3 k n)) && (ok3 (un3 k (2 * n)) && meet3 (root3 (un3 k n)) (un3 k (2 * n))))))
def allB (n : Nat) : Bool := sumB n && (List.range n).all fun k => powB n k && halfB n k

end Go.Proofs.Ythkooiopiaakbaa
