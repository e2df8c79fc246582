/- Plain: the document's table over four bytes tells how long the encoding is that begins there. -/
import Derived.Test.YtdklfodccdmmlaaDoorRf2L
namespace Go.Proofs.YtdklfodccdmmlaaDoor

theorem byt_drop (l : List Int) (p k : Nat) : byt l (p + k) = byt (l.drop p) k := by
  unfold byt
  simp only [List.length_drop, getD_drop']
  by_cases h : p + k < l.length
  · rw [if_pos h, if_pos (by omega)]
  · rw [if_neg h, if_neg (by omega)]
theorem rng_eq (x lo hi : Int) : rng x lo hi = decide (lo ≤ x ∧ x ≤ hi) := rfl
theorem byt_nil (k : Nat) : byt [] k = -1 := by simp [byt]
theorem byt_cons (a : Int) (r : List Int) : byt (a :: r) 0 = a := by simp [byt]
theorem byt_succ (a : Int) (r : List Int) (k : Nat) : byt (a :: r) (k + 1) = byt r k := by simp [byt]

/-- no encoding begins here -/
theorem tbl_0 {x y z v : Int} (h : x < 0 ∨ 127 < x ∧ x < 194 ∨ 244 < x) : tbl x y z v = 0 := by
  have x0 : rng x 0 127 = false := rng_f (by omega)
  have x1 : rng x 194 223 = false := rng_f (by omega)
  have x2 : rng x 225 236 = false := rng_f (by omega)
  have x3 : rng x 238 239 = false := rng_f (by omega)
  have x4 : rng x 241 243 = false := rng_f (by omega)
  have e0 : (x == 224) = false := by rw [beq_eq_false_iff_ne]; omega
  have e1 : (x == 237) = false := by rw [beq_eq_false_iff_ne]; omega
  have e2 : (x == 240) = false := by rw [beq_eq_false_iff_ne]; omega
  have e3 : (x == 244) = false := by rw [beq_eq_false_iff_ne]; omega
  simp [tbl, *]
theorem tbl_1 {x y z v : Int} (h0 : 0 ≤ x) (h : x ≤ 127) : tbl x y z v = 1 := by
  have x0 : rng x 0 127 = true := rng_t (by omega) (by omega)
  simp [tbl, x0]
theorem tbl_2 {x y z v : Int} (h0 : 194 ≤ x) (h : x ≤ 223) : tbl x y z v = if rng y 128 191 then 2 else 0 := by
  have x0 : rng x 0 127 = false := rng_f (by omega)
  have x1 : rng x 194 223 = true := rng_t (by omega) (by omega)
  have x2 : rng x 225 236 = false := rng_f (by omega)
  have x3 : rng x 238 239 = false := rng_f (by omega)
  have x4 : rng x 241 243 = false := rng_f (by omega)
  have e0 : (x == 224) = false := by rw [beq_eq_false_iff_ne]; omega
  have e1 : (x == 237) = false := by rw [beq_eq_false_iff_ne]; omega
  have e2 : (x == 240) = false := by rw [beq_eq_false_iff_ne]; omega
  have e3 : (x == 244) = false := by rw [beq_eq_false_iff_ne]; omega
  simp [tbl, *]
theorem tbl_3 {x y z v : Int} (h0 : 224 ≤ x) (h : x ≤ 239) : tbl x y z v = if sec x y && isTail z then 3 else 0 := by
  have x0 : rng x 0 127 = false := rng_f (by omega)
  have x1 : rng x 194 223 = false := rng_f (by omega)
  have x4 : rng x 241 243 = false := rng_f (by omega)
  have e2 : (x == 240) = false := by rw [beq_eq_false_iff_ne]; omega
  have e3 : (x == 244) = false := by rw [beq_eq_false_iff_ne]; omega
  have ht : rng z 128 191 = isTail z := by unfold rng isTail; congr 1; apply propext; constructor <;> intro h <;> omega
  have hs : ((x == 224) && rng y 160 191 || rng x 225 236 && rng y 128 191 || (x == 237) && rng y 128 159 || rng x 238 239 && rng y 128 191) = sec x y := by
    rw [Bool.eq_iff_iff]
    simp only [rng, sec, Bool.or_eq_true, Bool.and_eq_true, beq_iff_eq, decide_eq_true_eq]
    omega
  simp only [tbl, x0, x1, x4, e2, e3, Bool.false_and, Bool.and_false, Bool.or_false, Bool.false_eq_true, if_false, hs, ht]
  cases isTail z <;> cases sec x y <;> rfl
theorem tbl_4 {x y z v : Int} (h0 : 240 ≤ x) (h : x ≤ 244) : tbl x y z v = if sec x y && (isTail z && isTail v) then 4 else 0 := by
  have x0 : rng x 0 127 = false := rng_f (by omega)
  have x1 : rng x 194 223 = false := rng_f (by omega)
  have x2 : rng x 225 236 = false := rng_f (by omega)
  have x3 : rng x 238 239 = false := rng_f (by omega)
  have e0 : (x == 224) = false := by rw [beq_eq_false_iff_ne]; omega
  have e1 : (x == 237) = false := by rw [beq_eq_false_iff_ne]; omega
  have ht : rng z 128 191 = isTail z := by unfold rng isTail; congr 1; apply propext; constructor <;> intro h <;> omega
  have hv : rng v 128 191 = isTail v := by unfold rng isTail; congr 1; apply propext; constructor <;> intro h <;> omega
  have hs : ((x == 240) && rng y 144 191 || rng x 241 243 && rng y 128 191 || (x == 244) && rng y 128 143) = sec x y := by
    rw [Bool.eq_iff_iff]
    simp only [rng, sec, Bool.or_eq_true, Bool.and_eq_true, beq_iff_eq, decide_eq_true_eq]
    omega
  simp only [tbl, x0, x1, x2, x3, e0, e1, Bool.false_and, Bool.and_false, Bool.or_false, Bool.false_eq_true, if_false, hs, ht, hv]
  cases isTail z <;> cases isTail v <;> cases sec x y <;> rfl

theorem sec_none {x : Int} : sec x (-1) = false := decide_eq_false (by omega)
theorem tail_none : isTail (-1) = false := by decide

theorem tbl_lng (l : List Int) (hl : ∀ x ∈ l, 0 ≤ x ∧ x ≤ 255) : tbl (byt l 0) (byt l 1) (byt l 2) (byt l 3) = lng l := by
  match l, hl with
  | [], _ => rw [byt_nil, tbl_0 (by omega)]; rfl
  | a :: r, hl =>
    have ha := hl a (by simp)
    rw [byt_cons, byt_succ a r 0, byt_succ a r 1, byt_succ a r 2]
    have : a ≤ 127 ∨ (127 < a ∧ a < 194 ∨ 244 < a) ∨ (194 ≤ a ∧ a ≤ 223) ∨ (224 ≤ a ∧ a ≤ 239) ∨ (240 ≤ a ∧ a ≤ 244) := by omega
    rcases this with h | h | h | h | h
    · rw [tbl_1 ha.1 h]
      have hn := need_1' (a := a) (by omega)
      have hw : whole [a] = true := whole_one hn
      simp only [lng, hn]
      show 1 = if whole [a] = true then 1 else 0
      rw [if_pos hw]
    · rw [tbl_0 (by omega)]
      have hn := need_0' (a := a) (by omega)
      simp only [lng, hn]
      rfl
    · rw [tbl_2 h.1 h.2]
      have hn := need_2' (a := a) (by omega) (by omega)
      cases r with
      | nil =>
        rw [byt_nil]
        have hw : whole [a] = false := whole_len (by simp; omega)
        simp only [lng, hn]
        show (if rng (-1) 128 191 = true then 2 else 0) = if whole [a] = true then 2 else 0
        rw [hw]; rfl
      | cons b t =>
        have hw : whole [a, b] = sec a b := by rw [whole_more (by rw [hn]; rfl)]; simp
        have hs : rng b 128 191 = sec a b := by
          rw [Bool.eq_iff_iff]
          simp only [rng, sec, decide_eq_true_eq]
          omega
        rw [byt_cons, hs]
        simp only [lng, hn]
        show (if sec a b = true then 2 else 0) = if whole [a, b] = true then 2 else 0
        rw [hw]
    · rw [tbl_3 h.1 h.2]
      have hn := need_3' (a := a) (by omega) (by omega)
      match r with
      | [] =>
        rw [byt_nil, sec_none]
        have hw : whole [a] = false := whole_len (by simp; omega)
        simp only [lng, hn]
        show 0 = if whole [a] = true then 3 else 0
        rw [hw]; rfl
      | [b] =>
        rw [byt_succ, byt_nil, tail_none, Bool.and_false]
        have hw : whole [a, b] = false := whole_len (by simp; omega)
        simp only [lng, hn]
        show 0 = if whole [a, b] = true then 3 else 0
        rw [hw]; rfl
      | b :: c :: t =>
        have hw : whole [a, b, c] = (sec a b && isTail c) := by rw [whole_more (by rw [hn]; rfl)]; simp
        rw [byt_cons, byt_succ, byt_cons]
        simp only [lng, hn]
        show (if (sec a b && isTail c) = true then 3 else 0) = if whole [a, b, c] = true then 3 else 0
        rw [hw]
    · rw [tbl_4 h.1 h.2]
      have hn := need_4' (a := a) (by omega) (by omega)
      match r with
      | [] =>
        rw [byt_nil, sec_none]
        have hw : whole [a] = false := whole_len (by simp; omega)
        simp only [lng, hn]
        show 0 = if whole [a] = true then 4 else 0
        rw [hw]; rfl
      | [b] =>
        rw [byt_succ, byt_nil, tail_none, Bool.false_and, Bool.and_false]
        have hw : whole [a, b] = false := whole_len (by simp; omega)
        simp only [lng, hn]
        show 0 = if whole [a, b] = true then 4 else 0
        rw [hw]; rfl
      | [b, c] =>
        rw [byt_succ b [c] 1, byt_succ c [] 0, byt_nil, tail_none, Bool.and_false, Bool.and_false]
        have hw : whole [a, b, c] = false := whole_len (by simp; omega)
        simp only [lng, hn]
        show 0 = if whole [a, b, c] = true then 4 else 0
        rw [hw]; rfl
      | b :: c :: d :: t =>
        have hw : whole [a, b, c, d] = (sec a b && (isTail c && isTail d)) := by rw [whole_more (by rw [hn]; rfl)]; simp
        rw [byt_cons, byt_succ, byt_cons, byt_succ b _ 1, byt_succ c _ 0, byt_cons]
        simp only [lng, hn]
        show (if (sec a b && (isTail c && isTail d)) = true then 4 else 0) = if whole [a, b, c, d] = true then 4 else 0
        rw [hw]

theorem Long_at (a0 : Option Addr) (cap p : Nat) (l : List Int) (w : World) (hB : IsB w a0 cap l) (hp : p ≤ l.length) :
    Calls Tryd.prog 21 #[.slice a0 l.length cap, .int .i64 p] w fun e w' => e = .returned (.int .i64 (lng (l.drop p))) ∧ w' = w := by
  have := Long_tbl a0 cap p l w hB hp
  have hl := hB.2.2.2
  rw [byt_drop l p 1, byt_drop l p 2, byt_drop l p 3, show byt l p = byt (l.drop p) 0 from byt_drop l p 0, tbl_lng _ (fun x hx => hl x (List.mem_of_mem_drop hx))] at this
  exact this

end Go.Proofs.YtdklfodccdmmlaaDoor
