/- Contracts of strings.HasPrefix at the stand-in's own encoding, and of step.told. -/
import Derived.Test.YtdklfodccdmmlaaDoorStpC
namespace Go.Proofs.YtdklfodccdmmlaaDoor
open Go.ChangeShapes Go.WideShapes Go.ChangeAt Go.RowKit

theorem str_extract (l : List Int) (i j : Nat) : (strOfNums l).extract i j = strOfNums ((l.drop i).take (j - i)) := by
  apply ByteArray.ext
  rw [ByteArray.data_extract]
  simp only [strOfNums]
  apply Array.ext'
  rw [Array.toList_extract]
  simp [List.extract, List.map_drop, List.map_take]

theorem fffd_lng {m : List Int} (h : m.take 3 = [239, 191, 189]) : lng m = 3 ∧ (first m).1 = 65533 := by
  match m with
  | [] => cases h
  | [_] => cases h
  | [_, _] => cases h
  | a :: b :: c :: t =>
    simp only [List.take_succ_cons, List.take_zero, List.cons.injEq, and_true] at h
    obtain ⟨rfl, rfl, rfl⟩ := h
    exact ⟨by simp [lng, need, whole, sec, isTail], by simp [first, need, whole, sec, isTail, value, fold, lead]⟩
theorem lng_fffd {m : List Int} (hm : ∀ x ∈ m, 0 ≤ x ∧ x ≤ 255) (h : lng m ≠ 0) (hr : (first m).1 = 65533) : m.take 3 = [239, 191, 189] := by
  match m with
  | [] => simp [lng] at h
  | a :: r =>
    simp only [lng] at h
    split at h
    · rename_i hw
      simp only [first, if_pos hw] at hr
      have he := enc_value hw (fun x hx => hm x (List.mem_of_mem_take hx))
      rw [hr, enc_3 (by decide) (by decide) (by decide)] at he
      have hn : (need a).toNat = 3 ∨ ¬ (need a).toNat = 3 := by omega
      have hl := congrArg List.length he
      have h4 := need_hi a
      simp only [List.length_take, List.length_cons, List.length_nil] at hl
      have e3 : ((a :: r).take (need a).toNat).take 3 = (a :: r).take 3 := by rw [List.take_take, show min 3 (need a).toNat = 3 by omega]
      rw [← e3, ← he]
      decide
    · exact absurd rfl h

theorem str_fffd {l : List Int} (hl : ∀ x ∈ l, 0 ≤ x ∧ x ≤ 255) : ((strOfNums l).toList == ([239, 191, 189] : List UInt8)) = decide (l = [239, 191, 189]) := by
  have h := str_beq (m := [239, 191, 189]) hl (by decide)
  rw [Lib.strOfNums_toList, Lib.strOfNums_toList] at h
  rw [Lib.strOfNums_toList]
  exact h

theorem first_bad {l : List Int} (h : lng l = 0) : (first l).1 = 65533 := by
  cases l with
  | nil => rfl
  | cons a r =>
    simp only [first]
    split
    · rename_i hw
      simp only [lng, if_pos hw] at h
      rw [h] at hw
      cases hw
    · rfl
theorem stp_bad' {l : List Int} (h : lng l = 0) : stp l = stepV 65533 1 false := by
  cases l with
  | nil => simp [stp, wid, whl, first, lng]
  | cons a r =>
    have hw : wid (a :: r) = 1 := by rw [wid_lng, if_pos h]
    simp [stp, hw, first_bad h, whl, h]
theorem need_of_lng {a : Int} {r : List Int} (h : lng (a :: r) ≠ 0) : need a = ((lng (a :: r) : Nat) : Int) ∧ wid (a :: r) = lng (a :: r) ∧ whl (a :: r) = true := by
  refine ⟨?_, by rw [wid_lng, if_neg h], by simp [whl, h]⟩
  have := need_lo a
  simp only [lng] at h ⊢
  split at h
  · rename_i hw; rw [if_pos hw]; omega
  · exact absurd rfl h

theorem Need_is {x b : Int} (hx : x = b) (w : World) (h0 : 0 ≤ b) (h1 : b ≤ 255) (hT : Tab w) :
    Calls Tryd.prog 42 #[.int .u8 x] w fun e w' => e = .returned (.int .i64 (need b)) ∧ w' = w := by
  subst hx
  exact Need_any _ w h0 h1 hT

end Go.Proofs.YtdklfodccdmmlaaDoor
