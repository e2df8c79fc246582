/- The document's answer for layer 2: how many bytes the encoding has that begins at a place (galleyref02.at, in, Long). -/
import Derived.Test.YtpfjfgggacpdfaaDoorStpC
namespace Go.Proofs.YtpfjfgggacpdfaaDoor
open Go.ChangeShapes Go.WideShapes Go.ChangeAt Go.RowKit

def byt (l : List Int) (p : Nat) : Int := if p < l.length then l.getD p 0 else -1
def rng (x lo hi : Int) : Bool := decide (lo ≤ x ∧ x ≤ hi)
theorem rng_t {x lo hi : Int} (h1 : lo ≤ x) (h2 : x ≤ hi) : rng x lo hi = true := decide_eq_true ⟨h1, h2⟩
theorem rng_f {x lo hi : Int} (h : x < lo ∨ hi < x) : rng x lo hi = false := decide_eq_false (by omega)

/-- the document's table, over the four bytes from a place on -/
def tbl (x y z w : Int) : Nat :=
  if rng x 0 127 then 1 else if rng x 194 223 && rng y 128 191 then 2
  else if rng z 128 191 && ((x == 224) && rng y 160 191 || rng x 225 236 && rng y 128 191 || (x == 237) && rng y 128 159 || rng x 238 239 && rng y 128 191) then 3
  else if rng z 128 191 && rng w 128 191 && ((x == 240) && rng y 144 191 || rng x 241 243 && rng y 128 191 || (x == 244) && rng y 128 143) then 4 else 0

end Go.Proofs.YtpfjfgggacpdfaaDoor
