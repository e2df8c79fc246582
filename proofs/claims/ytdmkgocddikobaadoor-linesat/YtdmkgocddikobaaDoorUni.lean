/- Layer 3, runes and halves: the plain functions, and contracts of units' Len, Split, Join, isHigh, isLow, isByteUnit, byteOf and of the document's Len, High, Low, Split, Join, Byte: each leaves the world as it was. -/
import Derived.Test.YtdmkgocddikobaaDoorStp
namespace Go.Proofs.YtdmkgocddikobaaDoor
open Go.ChangeShapes Go.WideShapes Go.ChangeAt Go.RowKit

def ulen (r : Int) : Int := if isRune r then (if r < 65536 then 1 else 2) else 0
def isHi (x : Int) : Bool := decide (55296 ≤ x ∧ x < 56320)
def isLo (x : Int) : Bool := decide (56320 ≤ x ∧ x ≤ 57343)
def isBu (x : Int) : Bool := decide (56448 ≤ x ∧ x ≤ 56575)
def two (r : Int) : Bool := decide (65536 ≤ r ∧ r ≤ 1114111)
def hiU (r : Int) : Int := 55296 + (r - 65536) / 1024
def loU (r : Int) : Int := 56320 + (r - 65536) % 1024
def joinR (a b : Int) : Int := 65536 + (a - 55296) * 1024 + (b - 56320)
def splitV (r : Int) : Value := if two r then .tuple #[.int .u16 (hiU r), .int .u16 (loU r), .bool true] else .tuple #[.int .u16 0, .int .u16 0, .bool false]
def joinV (a b : Int) : Value := if isHi a && isLo b then .tuple #[.int .i32 (joinR a b), .bool true] else .tuple #[.int .i32 0, .bool false]
theorem i32_and1023 {x : Int} (h₀ : 0 ≤ x) (h₁ : x < 2147483648) : bits .and .i32 x 1023 = x % 1024 := bits_mask .i32 31 (by decide) wraps_i32 10 (by decide) x h₀ h₁
theorem ret_tuple {a b : Array Value} (h : a = b) : Ending.returned (.tuple a) = .returned (.tuple b) := by rw [h]
theorem ulen_two (r : Int) : (ulen r = 2) = (two r = true) := by
  apply propext
  constructor
  · intro h
    unfold ulen at h
    split at h
    · rename_i h1
      have h2 := of_decide_eq_true h1
      refine decide_eq_true ?_
      split at h <;> omega
    · omega
  · intro h
    have h2 := of_decide_eq_true h
    rw [ulen, if_pos (isRune_true (by omega)), if_neg (by omega)]

theorem ValidRune_any (r : Int) (w : World) (h0 : -2147483648 ≤ r) (h1 : r ≤ 2147483647) :
    Calls Tryd.prog 65 #[.int .i32 r] w fun e w' => e = .returned (.bool (isRune r)) ∧ w' = w := by
  go_enter Tryd.func65, Tryd.ntmps65
  go_wp2
  all_goals go_ret
  all_goals refine ⟨ret_bool ?_, rfl⟩
  all_goals (unfold isRune; rw [Bool.eq_iff_iff]; simp; omega)

theorem Len_any (r : Int) (w : World) (h0 : -2147483648 ≤ r) (h1 : r ≤ 2147483647) :
    Calls Tryd.prog 55 #[.int .i32 r] w fun e w' => e = .returned (.int .i64 (ulen r)) ∧ w' = w := by
  cases hr : isRune r with
  | true =>
    have HR := hide hr
    go_enter Tryd.func55, Tryd.ntmps55
    go_wp2_with (go_at_call 65; refine (ValidRune_any _ _ h0 h1).mono ?_; rintro e w' ⟨rfl, rfl⟩)
    all_goals go_ret
    all_goals refine ⟨ret_int ?_, rfl⟩
    all_goals (rw [ulen, if_pos (unhide HR)]; first | rw [if_pos (by omega)] | rw [if_neg (by omega)])
  | false =>
    have HR := hide hr
    go_enter Tryd.func55, Tryd.ntmps55
    go_wp2_with (go_at_call 65; refine (ValidRune_any _ _ h0 h1).mono ?_; rintro e w' ⟨rfl, rfl⟩)
    all_goals go_ret
    all_goals refine ⟨ret_int ?_, rfl⟩
    all_goals (rw [ulen, unhide HR]; rfl)

end Go.Proofs.YtdmkgocddikobaaDoor
