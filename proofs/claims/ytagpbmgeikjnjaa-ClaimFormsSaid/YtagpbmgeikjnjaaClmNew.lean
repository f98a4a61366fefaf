/- Parts that are nobody's, for all rows of members. -/
import Derived.Test.YtagpbmgeikjnjaaClmMath
namespace Go.Proofs.Ytagpbmgeikjnjaa
/- Of parts that are nobody's. -/
def setB (b0 b1 b2 b3 b4 b5 b6 b7 : Bool) : List Int := (if b0 then [0] else []) ++ (if b1 then [1] else []) ++ (if b2 then [2] else []) ++ (if b3 then [3] else []) ++ (if b4 then [4] else []) ++ (if b5 then [5] else []) ++ (if b6 then [6] else []) ++ (if b7 then [7] else [])
def newOk (M : List Int) : Bool := M.isEmpty || (atL (assignOf [] M) 0 == M.headD 99 && (decide (M.length < 3) || (List.range 16).all fun p => p == 0 || decide (16 - M.length ≤ p) || atL (assignOf [] M) p != atL (assignOf [] M) (p - 1)))
theorem new_all : ∀ b0 b1 b2 b3 b4 b5 b6 b7 : Bool, newOk (setB b0 b1 b2 b3 b4 b5 b6 b7) = true := by decide +kernel
end Go.Proofs.Ytagpbmgeikjnjaa
