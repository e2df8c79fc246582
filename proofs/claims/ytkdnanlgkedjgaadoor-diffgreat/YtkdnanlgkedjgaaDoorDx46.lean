/- The document's answer for layer 2: how many bytes the encoding has that begins at a place (galleyref02.at, in, Long). · Plain: the document's table over four bytes tells how long the encoding is that begins there. · The document's answer for layer 2: Inside, Of, Edge, At, Before, Floor, Ceil. · The document's answer for layer 2: Of, At, Before, Floor, Ceil. · Layer 19: the document's answer: Edges, Steps. -/
import Derived.Test.YtkdnanlgkedjgaaDoorDx08
import Derived.Test.YtkdnanlgkedjgaaDoorDx45

section
namespace Go.Proofs.YtkdnanlgkedjgaaDoor
open Go.ChangeShapes Go.WideShapes Go.ChangeAt Go.RowKit

def byt (l : List Int) (p : Nat) : Int := if p < l.length then l.getD p 0 else -1
def rng (x lo hi : Int) : Bool := decide (lo ≤ x ∧ x ≤ hi)
theorem rng_t {x lo hi : Int} (h1 : lo ≤ x) (h2 : x ≤ hi) : rng x lo hi = true := decide_eq_true ⟨h1, h2⟩
theorem rng_f {x lo hi : Int} (h : x < lo ∨ hi < x) : rng x lo hi = false := decide_eq_false (by omega)

theorem at_at (a0 : Option Addr) (cap : Nat) (l : List Int) (i : Int) {v : Int} (w : World) (hB : IsB w a0 cap l) (h0 : 0 ≤ i) (hv : byt l i.toNat = v) :
    Calls Tryd.prog 74 #[.slice a0 l.length cap, .int .i64 i] w fun e w' => e = .returned (.int .i64 v) ∧ w' = w := by
  obtain ⟨n, rfl⟩ : ∃ n : Nat, i = n := ⟨i.toNat, by omega⟩
  rw [Int.toNat_natCast] at hv
  subst hv
  have d0 : decide ((n : Int) < 0) = false := decide_eq_false (by omega)
  by_cases hn : n < l.length
  · rw [byt, if_pos hn]
    obtain ⟨h1, h2, h3, _⟩ := hB
    obtain ⟨g, off, rfl, hL, hg⟩ := h3.lies (by omega)
    obtain ⟨hc, x0, x1⟩ := hL n hn
    generalize hx : l.getD n 0 = x at hc x0 x1
    clear hx
    have hlt : ¬ (l.length : Int) ≤ (n : Int) := by omega
    go_enter Tryd.func74, Tryd.ntmps74
    go_wp2
    go_ret
    exact ⟨rfl, rfl⟩
  · rw [byt, if_neg hn]
    have hlt : (l.length : Int) ≤ (n : Int) := by omega
    go_enter Tryd.func74, Tryd.ntmps74
    go_wp2
    go_ret
    exact ⟨rfl, rfl⟩

theorem in_at (x lo hi : Int) {v : Bool} (w : World) (hv : rng x lo hi = v) :
    Calls Tryd.prog 75 #[.int .i64 x, .int .i64 lo, .int .i64 hi] w fun e w' => e = .returned (.bool v) ∧ w' = w := by
  subst hv
  by_cases h : lo ≤ x
  · have d0 : decide (lo ≤ x) = true := decide_eq_true h
    have e : rng x lo hi = decide (x ≤ hi) := by simp [rng, h]
    rw [e]
    go_enter Tryd.func75, Tryd.ntmps75
    go_wp2
    all_goals go_ret
    all_goals exact ⟨rfl, rfl⟩
  · have d0 : decide (lo ≤ x) = false := decide_eq_false h
    have e : rng x lo hi = false := by simp [rng, h]
    rw [e]
    go_enter Tryd.func75, Tryd.ntmps75
    go_wp2
    all_goals go_ret
    all_goals exact ⟨rfl, rfl⟩

/-- the document's table, over the four bytes from a place on -/
def tbl (x y z w : Int) : Nat :=
  if rng x 0 127 then 1 else if rng x 194 223 && rng y 128 191 then 2
  else if rng z 128 191 && ((x == 224) && rng y 160 191 || rng x 225 236 && rng y 128 191 || (x == 237) && rng y 128 159 || rng x 238 239 && rng y 128 191) then 3
  else if rng z 128 191 && rng w 128 191 && ((x == 240) && rng y 144 191 || rng x 241 243 && rng y 128 191 || (x == 244) && rng y 128 143) then 4 else 0

set_option maxHeartbeats 1000000 in
theorem Long_a (a0 : Option Addr) (cap p : Nat) (l : List Int) (x y z v : Int) (w : World) (hB : IsB w a0 cap l) (hp : p ≤ l.length) (hx : byt l (p : Int).toNat = x) (hy : byt l ((p : Int) + 1).toNat = y) (hz : byt l ((p : Int) + 2).toNat = z) (hv : byt l ((p : Int) + 3).toNat = v) (hlo : 0 ≤ x) (hhi : x ≤ 127) :
    Calls Tryd.prog 50 #[.slice a0 l.length cap, .int .i64 p] w fun e w' => e = .returned (.int .i64 (tbl x y z v)) ∧ w' = w := by
  have hl : l.length ≤ 140737488351232 := by obtain ⟨h1, h2, _⟩ := hB; omega
  have x0 : rng x 0 127 = true := rng_t (by omega) (by omega)
  have x1 : rng x 194 223 = false := rng_f (by omega)
  have x2 : rng x 225 236 = false := rng_f (by omega)
  have x3 : rng x 238 239 = false := rng_f (by omega)
  have x4 : rng x 241 243 = false := rng_f (by omega)
  have e224 : (x == 224) = false := by rw [beq_eq_false_iff_ne]; omega
  have e237 : (x == 237) = false := by rw [beq_eq_false_iff_ne]; omega
  have e240 : (x == 240) = false := by rw [beq_eq_false_iff_ne]; omega
  have e244 : (x == 244) = false := by rw [beq_eq_false_iff_ne]; omega
  rw [show tbl x y z v = 1 by clear hx hy hz hv; simp [tbl, *]]
  go_enter Tryd.func50, Tryd.ntmps50
  go_wp2_with (first
    | (go_at_call 74; refine (at_at a0 cap l _ _ hB (by omega) (by assumption)).mono ?_; rintro e w' ⟨rfl, rfl⟩)
    | (go_at_call 75; refine (in_at _ _ _ _ (by assumption)).mono ?_; rintro e w' ⟨rfl, rfl⟩))
  go_ret
  exact ⟨rfl, rfl⟩

set_option maxHeartbeats 1000000 in
theorem Long_b (a0 : Option Addr) (cap p : Nat) (l : List Int) (x y z v : Int) (w : World) (hB : IsB w a0 cap l) (hp : p ≤ l.length) (hx : byt l (p : Int).toNat = x) (hy : byt l ((p : Int) + 1).toNat = y) (hz : byt l ((p : Int) + 2).toNat = z) (hv : byt l ((p : Int) + 3).toNat = v) (hlo : 194 ≤ x) (hhi : x ≤ 223) :
    Calls Tryd.prog 50 #[.slice a0 l.length cap, .int .i64 p] w fun e w' => e = .returned (.int .i64 (tbl x y z v)) ∧ w' = w := by
  have hl : l.length ≤ 140737488351232 := by obtain ⟨h1, h2, _⟩ := hB; omega
  have x0 : rng x 0 127 = false := rng_f (by omega)
  have x1 : rng x 194 223 = true := rng_t (by omega) (by omega)
  have x2 : rng x 225 236 = false := rng_f (by omega)
  have x3 : rng x 238 239 = false := rng_f (by omega)
  have x4 : rng x 241 243 = false := rng_f (by omega)
  have e224 : (x == 224) = false := by rw [beq_eq_false_iff_ne]; omega
  have e237 : (x == 237) = false := by rw [beq_eq_false_iff_ne]; omega
  have e240 : (x == 240) = false := by rw [beq_eq_false_iff_ne]; omega
  have e244 : (x == 244) = false := by rw [beq_eq_false_iff_ne]; omega
  cases hyt : rng y 128 191 with
  | true =>
    rw [show tbl x y z v = 2 by clear hx hy hz hv; simp [tbl, *]]
    go_enter Tryd.func50, Tryd.ntmps50
    go_wp2_with (first
      | (go_at_call 74; refine (at_at a0 cap l _ _ hB (by omega) (by assumption)).mono ?_; rintro e w' ⟨rfl, rfl⟩)
      | (go_at_call 75; refine (in_at _ _ _ _ (by assumption)).mono ?_; rintro e w' ⟨rfl, rfl⟩))
    go_ret
    exact ⟨rfl, rfl⟩
  | false =>
    cases hzt : rng z 128 191 with
    | false =>
      rw [show tbl x y z v = 0 by clear hx hy hz hv; simp [tbl, *]]
      go_enter Tryd.func50, Tryd.ntmps50
      go_wp2_with (first
        | (go_at_call 74; refine (at_at a0 cap l _ _ hB (by omega) (by assumption)).mono ?_; rintro e w' ⟨rfl, rfl⟩)
        | (go_at_call 75; refine (in_at _ _ _ _ (by assumption)).mono ?_; rintro e w' ⟨rfl, rfl⟩))
      go_ret
      exact ⟨rfl, rfl⟩
    | true =>
      cases hvt : rng v 128 191 with
      | false =>
        rw [show tbl x y z v = 0 by clear hx hy hz hv; simp [tbl, *]]
        go_enter Tryd.func50, Tryd.ntmps50
        go_wp2_with (first
          | (go_at_call 74; refine (at_at a0 cap l _ _ hB (by omega) (by assumption)).mono ?_; rintro e w' ⟨rfl, rfl⟩)
          | (go_at_call 75; refine (in_at _ _ _ _ (by assumption)).mono ?_; rintro e w' ⟨rfl, rfl⟩))
        go_ret
        exact ⟨rfl, rfl⟩
      | true =>
        rw [show tbl x y z v = 0 by clear hx hy hz hv; simp [tbl, *]]
        go_enter Tryd.func50, Tryd.ntmps50
        go_wp2_with (first
          | (go_at_call 74; refine (at_at a0 cap l _ _ hB (by omega) (by assumption)).mono ?_; rintro e w' ⟨rfl, rfl⟩)
          | (go_at_call 75; refine (in_at _ _ _ _ (by assumption)).mono ?_; rintro e w' ⟨rfl, rfl⟩))
        go_ret
        exact ⟨rfl, rfl⟩

set_option maxHeartbeats 1000000 in
theorem Long_c (a0 : Option Addr) (cap p : Nat) (l : List Int) (x y z v : Int) (w : World) (hB : IsB w a0 cap l) (hp : p ≤ l.length) (hx : byt l (p : Int).toNat = x) (hy : byt l ((p : Int) + 1).toNat = y) (hz : byt l ((p : Int) + 2).toNat = z) (hv : byt l ((p : Int) + 3).toNat = v) (hlo : 224 ≤ x) (hhi : x ≤ 224) :
    Calls Tryd.prog 50 #[.slice a0 l.length cap, .int .i64 p] w fun e w' => e = .returned (.int .i64 (tbl x y z v)) ∧ w' = w := by
  have hl : l.length ≤ 140737488351232 := by obtain ⟨h1, h2, _⟩ := hB; omega
  have x0 : rng x 0 127 = false := rng_f (by omega)
  have x1 : rng x 194 223 = false := rng_f (by omega)
  have x2 : rng x 225 236 = false := rng_f (by omega)
  have x3 : rng x 238 239 = false := rng_f (by omega)
  have x4 : rng x 241 243 = false := rng_f (by omega)
  have e224 : (x == 224) = true := by rw [beq_iff_eq]; omega
  have e237 : (x == 237) = false := by rw [beq_eq_false_iff_ne]; omega
  have e240 : (x == 240) = false := by rw [beq_eq_false_iff_ne]; omega
  have e244 : (x == 244) = false := by rw [beq_eq_false_iff_ne]; omega
  cases hyt : rng y 160 191 with
  | false =>
    cases hzt : rng z 128 191 with
    | false =>
      rw [show tbl x y z v = 0 by clear hx hy hz hv; simp [tbl, *]]
      go_enter Tryd.func50, Tryd.ntmps50
      go_wp2_with (first
        | (go_at_call 74; refine (at_at a0 cap l _ _ hB (by omega) (by assumption)).mono ?_; rintro e w' ⟨rfl, rfl⟩)
        | (go_at_call 75; refine (in_at _ _ _ _ (by assumption)).mono ?_; rintro e w' ⟨rfl, rfl⟩))
      go_ret
      exact ⟨rfl, rfl⟩
    | true =>
      cases hvt : rng v 128 191 with
      | false =>
        rw [show tbl x y z v = 0 by clear hx hy hz hv; simp [tbl, *]]
        go_enter Tryd.func50, Tryd.ntmps50
        go_wp2_with (first
          | (go_at_call 74; refine (at_at a0 cap l _ _ hB (by omega) (by assumption)).mono ?_; rintro e w' ⟨rfl, rfl⟩)
          | (go_at_call 75; refine (in_at _ _ _ _ (by assumption)).mono ?_; rintro e w' ⟨rfl, rfl⟩))
        go_ret
        exact ⟨rfl, rfl⟩
      | true =>
        rw [show tbl x y z v = 0 by clear hx hy hz hv; simp [tbl, *]]
        go_enter Tryd.func50, Tryd.ntmps50
        go_wp2_with (first
          | (go_at_call 74; refine (at_at a0 cap l _ _ hB (by omega) (by assumption)).mono ?_; rintro e w' ⟨rfl, rfl⟩)
          | (go_at_call 75; refine (in_at _ _ _ _ (by assumption)).mono ?_; rintro e w' ⟨rfl, rfl⟩))
        go_ret
        exact ⟨rfl, rfl⟩
  | true =>
    cases hzt : rng z 128 191 with
    | false =>
      rw [show tbl x y z v = 0 by clear hx hy hz hv; simp [tbl, *]]
      go_enter Tryd.func50, Tryd.ntmps50
      go_wp2_with (first
        | (go_at_call 74; refine (at_at a0 cap l _ _ hB (by omega) (by assumption)).mono ?_; rintro e w' ⟨rfl, rfl⟩)
        | (go_at_call 75; refine (in_at _ _ _ _ (by assumption)).mono ?_; rintro e w' ⟨rfl, rfl⟩))
      go_ret
      exact ⟨rfl, rfl⟩
    | true =>
      rw [show tbl x y z v = 3 by clear hx hy hz hv; simp [tbl, *]]
      go_enter Tryd.func50, Tryd.ntmps50
      go_wp2_with (first
        | (go_at_call 74; refine (at_at a0 cap l _ _ hB (by omega) (by assumption)).mono ?_; rintro e w' ⟨rfl, rfl⟩)
        | (go_at_call 75; refine (in_at _ _ _ _ (by assumption)).mono ?_; rintro e w' ⟨rfl, rfl⟩))
      go_ret
      exact ⟨rfl, rfl⟩

set_option maxHeartbeats 1000000 in
theorem Long_d (a0 : Option Addr) (cap p : Nat) (l : List Int) (x y z v : Int) (w : World) (hB : IsB w a0 cap l) (hp : p ≤ l.length) (hx : byt l (p : Int).toNat = x) (hy : byt l ((p : Int) + 1).toNat = y) (hz : byt l ((p : Int) + 2).toNat = z) (hv : byt l ((p : Int) + 3).toNat = v) (hlo : 225 ≤ x) (hhi : x ≤ 236) :
    Calls Tryd.prog 50 #[.slice a0 l.length cap, .int .i64 p] w fun e w' => e = .returned (.int .i64 (tbl x y z v)) ∧ w' = w := by
  have hl : l.length ≤ 140737488351232 := by obtain ⟨h1, h2, _⟩ := hB; omega
  have x0 : rng x 0 127 = false := rng_f (by omega)
  have x1 : rng x 194 223 = false := rng_f (by omega)
  have x2 : rng x 225 236 = true := rng_t (by omega) (by omega)
  have x3 : rng x 238 239 = false := rng_f (by omega)
  have x4 : rng x 241 243 = false := rng_f (by omega)
  have e224 : (x == 224) = false := by rw [beq_eq_false_iff_ne]; omega
  have e237 : (x == 237) = false := by rw [beq_eq_false_iff_ne]; omega
  have e240 : (x == 240) = false := by rw [beq_eq_false_iff_ne]; omega
  have e244 : (x == 244) = false := by rw [beq_eq_false_iff_ne]; omega
  cases hyt : rng y 128 191 with
  | false =>
    cases hzt : rng z 128 191 with
    | false =>
      rw [show tbl x y z v = 0 by clear hx hy hz hv; simp [tbl, *]]
      go_enter Tryd.func50, Tryd.ntmps50
      go_wp2_with (first
        | (go_at_call 74; refine (at_at a0 cap l _ _ hB (by omega) (by assumption)).mono ?_; rintro e w' ⟨rfl, rfl⟩)
        | (go_at_call 75; refine (in_at _ _ _ _ (by assumption)).mono ?_; rintro e w' ⟨rfl, rfl⟩))
      go_ret
      exact ⟨rfl, rfl⟩
    | true =>
      cases hvt : rng v 128 191 with
      | false =>
        rw [show tbl x y z v = 0 by clear hx hy hz hv; simp [tbl, *]]
        go_enter Tryd.func50, Tryd.ntmps50
        go_wp2_with (first
          | (go_at_call 74; refine (at_at a0 cap l _ _ hB (by omega) (by assumption)).mono ?_; rintro e w' ⟨rfl, rfl⟩)
          | (go_at_call 75; refine (in_at _ _ _ _ (by assumption)).mono ?_; rintro e w' ⟨rfl, rfl⟩))
        go_ret
        exact ⟨rfl, rfl⟩
      | true =>
        rw [show tbl x y z v = 0 by clear hx hy hz hv; simp [tbl, *]]
        go_enter Tryd.func50, Tryd.ntmps50
        go_wp2_with (first
          | (go_at_call 74; refine (at_at a0 cap l _ _ hB (by omega) (by assumption)).mono ?_; rintro e w' ⟨rfl, rfl⟩)
          | (go_at_call 75; refine (in_at _ _ _ _ (by assumption)).mono ?_; rintro e w' ⟨rfl, rfl⟩))
        go_ret
        exact ⟨rfl, rfl⟩
  | true =>
    cases hzt : rng z 128 191 with
    | false =>
      rw [show tbl x y z v = 0 by clear hx hy hz hv; simp [tbl, *]]
      go_enter Tryd.func50, Tryd.ntmps50
      go_wp2_with (first
        | (go_at_call 74; refine (at_at a0 cap l _ _ hB (by omega) (by assumption)).mono ?_; rintro e w' ⟨rfl, rfl⟩)
        | (go_at_call 75; refine (in_at _ _ _ _ (by assumption)).mono ?_; rintro e w' ⟨rfl, rfl⟩))
      go_ret
      exact ⟨rfl, rfl⟩
    | true =>
      rw [show tbl x y z v = 3 by clear hx hy hz hv; simp [tbl, *]]
      go_enter Tryd.func50, Tryd.ntmps50
      go_wp2_with (first
        | (go_at_call 74; refine (at_at a0 cap l _ _ hB (by omega) (by assumption)).mono ?_; rintro e w' ⟨rfl, rfl⟩)
        | (go_at_call 75; refine (in_at _ _ _ _ (by assumption)).mono ?_; rintro e w' ⟨rfl, rfl⟩))
      go_ret
      exact ⟨rfl, rfl⟩

set_option maxHeartbeats 1000000 in
theorem Long_e (a0 : Option Addr) (cap p : Nat) (l : List Int) (x y z v : Int) (w : World) (hB : IsB w a0 cap l) (hp : p ≤ l.length) (hx : byt l (p : Int).toNat = x) (hy : byt l ((p : Int) + 1).toNat = y) (hz : byt l ((p : Int) + 2).toNat = z) (hv : byt l ((p : Int) + 3).toNat = v) (hlo : 237 ≤ x) (hhi : x ≤ 237) :
    Calls Tryd.prog 50 #[.slice a0 l.length cap, .int .i64 p] w fun e w' => e = .returned (.int .i64 (tbl x y z v)) ∧ w' = w := by
  have hl : l.length ≤ 140737488351232 := by obtain ⟨h1, h2, _⟩ := hB; omega
  have x0 : rng x 0 127 = false := rng_f (by omega)
  have x1 : rng x 194 223 = false := rng_f (by omega)
  have x2 : rng x 225 236 = false := rng_f (by omega)
  have x3 : rng x 238 239 = false := rng_f (by omega)
  have x4 : rng x 241 243 = false := rng_f (by omega)
  have e224 : (x == 224) = false := by rw [beq_eq_false_iff_ne]; omega
  have e237 : (x == 237) = true := by rw [beq_iff_eq]; omega
  have e240 : (x == 240) = false := by rw [beq_eq_false_iff_ne]; omega
  have e244 : (x == 244) = false := by rw [beq_eq_false_iff_ne]; omega
  cases hyt : rng y 128 159 with
  | false =>
    cases hzt : rng z 128 191 with
    | false =>
      rw [show tbl x y z v = 0 by clear hx hy hz hv; simp [tbl, *]]
      go_enter Tryd.func50, Tryd.ntmps50
      go_wp2_with (first
        | (go_at_call 74; refine (at_at a0 cap l _ _ hB (by omega) (by assumption)).mono ?_; rintro e w' ⟨rfl, rfl⟩)
        | (go_at_call 75; refine (in_at _ _ _ _ (by assumption)).mono ?_; rintro e w' ⟨rfl, rfl⟩))
      go_ret
      exact ⟨rfl, rfl⟩
    | true =>
      cases hvt : rng v 128 191 with
      | false =>
        rw [show tbl x y z v = 0 by clear hx hy hz hv; simp [tbl, *]]
        go_enter Tryd.func50, Tryd.ntmps50
        go_wp2_with (first
          | (go_at_call 74; refine (at_at a0 cap l _ _ hB (by omega) (by assumption)).mono ?_; rintro e w' ⟨rfl, rfl⟩)
          | (go_at_call 75; refine (in_at _ _ _ _ (by assumption)).mono ?_; rintro e w' ⟨rfl, rfl⟩))
        go_ret
        exact ⟨rfl, rfl⟩
      | true =>
        rw [show tbl x y z v = 0 by clear hx hy hz hv; simp [tbl, *]]
        go_enter Tryd.func50, Tryd.ntmps50
        go_wp2_with (first
          | (go_at_call 74; refine (at_at a0 cap l _ _ hB (by omega) (by assumption)).mono ?_; rintro e w' ⟨rfl, rfl⟩)
          | (go_at_call 75; refine (in_at _ _ _ _ (by assumption)).mono ?_; rintro e w' ⟨rfl, rfl⟩))
        go_ret
        exact ⟨rfl, rfl⟩
  | true =>
    cases hzt : rng z 128 191 with
    | false =>
      rw [show tbl x y z v = 0 by clear hx hy hz hv; simp [tbl, *]]
      go_enter Tryd.func50, Tryd.ntmps50
      go_wp2_with (first
        | (go_at_call 74; refine (at_at a0 cap l _ _ hB (by omega) (by assumption)).mono ?_; rintro e w' ⟨rfl, rfl⟩)
        | (go_at_call 75; refine (in_at _ _ _ _ (by assumption)).mono ?_; rintro e w' ⟨rfl, rfl⟩))
      go_ret
      exact ⟨rfl, rfl⟩
    | true =>
      rw [show tbl x y z v = 3 by clear hx hy hz hv; simp [tbl, *]]
      go_enter Tryd.func50, Tryd.ntmps50
      go_wp2_with (first
        | (go_at_call 74; refine (at_at a0 cap l _ _ hB (by omega) (by assumption)).mono ?_; rintro e w' ⟨rfl, rfl⟩)
        | (go_at_call 75; refine (in_at _ _ _ _ (by assumption)).mono ?_; rintro e w' ⟨rfl, rfl⟩))
      go_ret
      exact ⟨rfl, rfl⟩

set_option maxHeartbeats 1000000 in
theorem Long_f (a0 : Option Addr) (cap p : Nat) (l : List Int) (x y z v : Int) (w : World) (hB : IsB w a0 cap l) (hp : p ≤ l.length) (hx : byt l (p : Int).toNat = x) (hy : byt l ((p : Int) + 1).toNat = y) (hz : byt l ((p : Int) + 2).toNat = z) (hv : byt l ((p : Int) + 3).toNat = v) (hlo : 238 ≤ x) (hhi : x ≤ 239) :
    Calls Tryd.prog 50 #[.slice a0 l.length cap, .int .i64 p] w fun e w' => e = .returned (.int .i64 (tbl x y z v)) ∧ w' = w := by
  have hl : l.length ≤ 140737488351232 := by obtain ⟨h1, h2, _⟩ := hB; omega
  have x0 : rng x 0 127 = false := rng_f (by omega)
  have x1 : rng x 194 223 = false := rng_f (by omega)
  have x2 : rng x 225 236 = false := rng_f (by omega)
  have x3 : rng x 238 239 = true := rng_t (by omega) (by omega)
  have x4 : rng x 241 243 = false := rng_f (by omega)
  have e224 : (x == 224) = false := by rw [beq_eq_false_iff_ne]; omega
  have e237 : (x == 237) = false := by rw [beq_eq_false_iff_ne]; omega
  have e240 : (x == 240) = false := by rw [beq_eq_false_iff_ne]; omega
  have e244 : (x == 244) = false := by rw [beq_eq_false_iff_ne]; omega
  cases hyt : rng y 128 191 with
  | false =>
    cases hzt : rng z 128 191 with
    | false =>
      rw [show tbl x y z v = 0 by clear hx hy hz hv; simp [tbl, *]]
      go_enter Tryd.func50, Tryd.ntmps50
      go_wp2_with (first
        | (go_at_call 74; refine (at_at a0 cap l _ _ hB (by omega) (by assumption)).mono ?_; rintro e w' ⟨rfl, rfl⟩)
        | (go_at_call 75; refine (in_at _ _ _ _ (by assumption)).mono ?_; rintro e w' ⟨rfl, rfl⟩))
      go_ret
      exact ⟨rfl, rfl⟩
    | true =>
      cases hvt : rng v 128 191 with
      | false =>
        rw [show tbl x y z v = 0 by clear hx hy hz hv; simp [tbl, *]]
        go_enter Tryd.func50, Tryd.ntmps50
        go_wp2_with (first
          | (go_at_call 74; refine (at_at a0 cap l _ _ hB (by omega) (by assumption)).mono ?_; rintro e w' ⟨rfl, rfl⟩)
          | (go_at_call 75; refine (in_at _ _ _ _ (by assumption)).mono ?_; rintro e w' ⟨rfl, rfl⟩))
        go_ret
        exact ⟨rfl, rfl⟩
      | true =>
        rw [show tbl x y z v = 0 by clear hx hy hz hv; simp [tbl, *]]
        go_enter Tryd.func50, Tryd.ntmps50
        go_wp2_with (first
          | (go_at_call 74; refine (at_at a0 cap l _ _ hB (by omega) (by assumption)).mono ?_; rintro e w' ⟨rfl, rfl⟩)
          | (go_at_call 75; refine (in_at _ _ _ _ (by assumption)).mono ?_; rintro e w' ⟨rfl, rfl⟩))
        go_ret
        exact ⟨rfl, rfl⟩
  | true =>
    cases hzt : rng z 128 191 with
    | false =>
      rw [show tbl x y z v = 0 by clear hx hy hz hv; simp [tbl, *]]
      go_enter Tryd.func50, Tryd.ntmps50
      go_wp2_with (first
        | (go_at_call 74; refine (at_at a0 cap l _ _ hB (by omega) (by assumption)).mono ?_; rintro e w' ⟨rfl, rfl⟩)
        | (go_at_call 75; refine (in_at _ _ _ _ (by assumption)).mono ?_; rintro e w' ⟨rfl, rfl⟩))
      go_ret
      exact ⟨rfl, rfl⟩
    | true =>
      rw [show tbl x y z v = 3 by clear hx hy hz hv; simp [tbl, *]]
      go_enter Tryd.func50, Tryd.ntmps50
      go_wp2_with (first
        | (go_at_call 74; refine (at_at a0 cap l _ _ hB (by omega) (by assumption)).mono ?_; rintro e w' ⟨rfl, rfl⟩)
        | (go_at_call 75; refine (in_at _ _ _ _ (by assumption)).mono ?_; rintro e w' ⟨rfl, rfl⟩))
      go_ret
      exact ⟨rfl, rfl⟩

set_option maxHeartbeats 1000000 in
theorem Long_g (a0 : Option Addr) (cap p : Nat) (l : List Int) (x y z v : Int) (w : World) (hB : IsB w a0 cap l) (hp : p ≤ l.length) (hx : byt l (p : Int).toNat = x) (hy : byt l ((p : Int) + 1).toNat = y) (hz : byt l ((p : Int) + 2).toNat = z) (hv : byt l ((p : Int) + 3).toNat = v) (hlo : 240 ≤ x) (hhi : x ≤ 240) :
    Calls Tryd.prog 50 #[.slice a0 l.length cap, .int .i64 p] w fun e w' => e = .returned (.int .i64 (tbl x y z v)) ∧ w' = w := by
  have hl : l.length ≤ 140737488351232 := by obtain ⟨h1, h2, _⟩ := hB; omega
  have x0 : rng x 0 127 = false := rng_f (by omega)
  have x1 : rng x 194 223 = false := rng_f (by omega)
  have x2 : rng x 225 236 = false := rng_f (by omega)
  have x3 : rng x 238 239 = false := rng_f (by omega)
  have x4 : rng x 241 243 = false := rng_f (by omega)
  have e224 : (x == 224) = false := by rw [beq_eq_false_iff_ne]; omega
  have e237 : (x == 237) = false := by rw [beq_eq_false_iff_ne]; omega
  have e240 : (x == 240) = true := by rw [beq_iff_eq]; omega
  have e244 : (x == 244) = false := by rw [beq_eq_false_iff_ne]; omega
  cases hyt : rng y 144 191 with
  | false =>
    cases hzt : rng z 128 191 with
    | false =>
      rw [show tbl x y z v = 0 by clear hx hy hz hv; simp [tbl, *]]
      go_enter Tryd.func50, Tryd.ntmps50
      go_wp2_with (first
        | (go_at_call 74; refine (at_at a0 cap l _ _ hB (by omega) (by assumption)).mono ?_; rintro e w' ⟨rfl, rfl⟩)
        | (go_at_call 75; refine (in_at _ _ _ _ (by assumption)).mono ?_; rintro e w' ⟨rfl, rfl⟩))
      go_ret
      exact ⟨rfl, rfl⟩
    | true =>
      cases hvt : rng v 128 191 with
      | false =>
        rw [show tbl x y z v = 0 by clear hx hy hz hv; simp [tbl, *]]
        go_enter Tryd.func50, Tryd.ntmps50
        go_wp2_with (first
          | (go_at_call 74; refine (at_at a0 cap l _ _ hB (by omega) (by assumption)).mono ?_; rintro e w' ⟨rfl, rfl⟩)
          | (go_at_call 75; refine (in_at _ _ _ _ (by assumption)).mono ?_; rintro e w' ⟨rfl, rfl⟩))
        go_ret
        exact ⟨rfl, rfl⟩
      | true =>
        rw [show tbl x y z v = 0 by clear hx hy hz hv; simp [tbl, *]]
        go_enter Tryd.func50, Tryd.ntmps50
        go_wp2_with (first
          | (go_at_call 74; refine (at_at a0 cap l _ _ hB (by omega) (by assumption)).mono ?_; rintro e w' ⟨rfl, rfl⟩)
          | (go_at_call 75; refine (in_at _ _ _ _ (by assumption)).mono ?_; rintro e w' ⟨rfl, rfl⟩))
        go_ret
        exact ⟨rfl, rfl⟩
  | true =>
    cases hzt : rng z 128 191 with
    | false =>
      rw [show tbl x y z v = 0 by clear hx hy hz hv; simp [tbl, *]]
      go_enter Tryd.func50, Tryd.ntmps50
      go_wp2_with (first
        | (go_at_call 74; refine (at_at a0 cap l _ _ hB (by omega) (by assumption)).mono ?_; rintro e w' ⟨rfl, rfl⟩)
        | (go_at_call 75; refine (in_at _ _ _ _ (by assumption)).mono ?_; rintro e w' ⟨rfl, rfl⟩))
      go_ret
      exact ⟨rfl, rfl⟩
    | true =>
      cases hvt : rng v 128 191 with
      | false =>
        rw [show tbl x y z v = 0 by clear hx hy hz hv; simp [tbl, *]]
        go_enter Tryd.func50, Tryd.ntmps50
        go_wp2_with (first
          | (go_at_call 74; refine (at_at a0 cap l _ _ hB (by omega) (by assumption)).mono ?_; rintro e w' ⟨rfl, rfl⟩)
          | (go_at_call 75; refine (in_at _ _ _ _ (by assumption)).mono ?_; rintro e w' ⟨rfl, rfl⟩))
        go_ret
        exact ⟨rfl, rfl⟩
      | true =>
        rw [show tbl x y z v = 4 by clear hx hy hz hv; simp [tbl, *]]
        go_enter Tryd.func50, Tryd.ntmps50
        go_wp2_with (first
          | (go_at_call 74; refine (at_at a0 cap l _ _ hB (by omega) (by assumption)).mono ?_; rintro e w' ⟨rfl, rfl⟩)
          | (go_at_call 75; refine (in_at _ _ _ _ (by assumption)).mono ?_; rintro e w' ⟨rfl, rfl⟩))
        go_ret
        exact ⟨rfl, rfl⟩

set_option maxHeartbeats 1000000 in
theorem Long_h (a0 : Option Addr) (cap p : Nat) (l : List Int) (x y z v : Int) (w : World) (hB : IsB w a0 cap l) (hp : p ≤ l.length) (hx : byt l (p : Int).toNat = x) (hy : byt l ((p : Int) + 1).toNat = y) (hz : byt l ((p : Int) + 2).toNat = z) (hv : byt l ((p : Int) + 3).toNat = v) (hlo : 241 ≤ x) (hhi : x ≤ 243) :
    Calls Tryd.prog 50 #[.slice a0 l.length cap, .int .i64 p] w fun e w' => e = .returned (.int .i64 (tbl x y z v)) ∧ w' = w := by
  have hl : l.length ≤ 140737488351232 := by obtain ⟨h1, h2, _⟩ := hB; omega
  have x0 : rng x 0 127 = false := rng_f (by omega)
  have x1 : rng x 194 223 = false := rng_f (by omega)
  have x2 : rng x 225 236 = false := rng_f (by omega)
  have x3 : rng x 238 239 = false := rng_f (by omega)
  have x4 : rng x 241 243 = true := rng_t (by omega) (by omega)
  have e224 : (x == 224) = false := by rw [beq_eq_false_iff_ne]; omega
  have e237 : (x == 237) = false := by rw [beq_eq_false_iff_ne]; omega
  have e240 : (x == 240) = false := by rw [beq_eq_false_iff_ne]; omega
  have e244 : (x == 244) = false := by rw [beq_eq_false_iff_ne]; omega
  cases hyt : rng y 128 191 with
  | false =>
    cases hzt : rng z 128 191 with
    | false =>
      rw [show tbl x y z v = 0 by clear hx hy hz hv; simp [tbl, *]]
      go_enter Tryd.func50, Tryd.ntmps50
      go_wp2_with (first
        | (go_at_call 74; refine (at_at a0 cap l _ _ hB (by omega) (by assumption)).mono ?_; rintro e w' ⟨rfl, rfl⟩)
        | (go_at_call 75; refine (in_at _ _ _ _ (by assumption)).mono ?_; rintro e w' ⟨rfl, rfl⟩))
      go_ret
      exact ⟨rfl, rfl⟩
    | true =>
      cases hvt : rng v 128 191 with
      | false =>
        rw [show tbl x y z v = 0 by clear hx hy hz hv; simp [tbl, *]]
        go_enter Tryd.func50, Tryd.ntmps50
        go_wp2_with (first
          | (go_at_call 74; refine (at_at a0 cap l _ _ hB (by omega) (by assumption)).mono ?_; rintro e w' ⟨rfl, rfl⟩)
          | (go_at_call 75; refine (in_at _ _ _ _ (by assumption)).mono ?_; rintro e w' ⟨rfl, rfl⟩))
        go_ret
        exact ⟨rfl, rfl⟩
      | true =>
        rw [show tbl x y z v = 0 by clear hx hy hz hv; simp [tbl, *]]
        go_enter Tryd.func50, Tryd.ntmps50
        go_wp2_with (first
          | (go_at_call 74; refine (at_at a0 cap l _ _ hB (by omega) (by assumption)).mono ?_; rintro e w' ⟨rfl, rfl⟩)
          | (go_at_call 75; refine (in_at _ _ _ _ (by assumption)).mono ?_; rintro e w' ⟨rfl, rfl⟩))
        go_ret
        exact ⟨rfl, rfl⟩
  | true =>
    cases hzt : rng z 128 191 with
    | false =>
      rw [show tbl x y z v = 0 by clear hx hy hz hv; simp [tbl, *]]
      go_enter Tryd.func50, Tryd.ntmps50
      go_wp2_with (first
        | (go_at_call 74; refine (at_at a0 cap l _ _ hB (by omega) (by assumption)).mono ?_; rintro e w' ⟨rfl, rfl⟩)
        | (go_at_call 75; refine (in_at _ _ _ _ (by assumption)).mono ?_; rintro e w' ⟨rfl, rfl⟩))
      go_ret
      exact ⟨rfl, rfl⟩
    | true =>
      cases hvt : rng v 128 191 with
      | false =>
        rw [show tbl x y z v = 0 by clear hx hy hz hv; simp [tbl, *]]
        go_enter Tryd.func50, Tryd.ntmps50
        go_wp2_with (first
          | (go_at_call 74; refine (at_at a0 cap l _ _ hB (by omega) (by assumption)).mono ?_; rintro e w' ⟨rfl, rfl⟩)
          | (go_at_call 75; refine (in_at _ _ _ _ (by assumption)).mono ?_; rintro e w' ⟨rfl, rfl⟩))
        go_ret
        exact ⟨rfl, rfl⟩
      | true =>
        rw [show tbl x y z v = 4 by clear hx hy hz hv; simp [tbl, *]]
        go_enter Tryd.func50, Tryd.ntmps50
        go_wp2_with (first
          | (go_at_call 74; refine (at_at a0 cap l _ _ hB (by omega) (by assumption)).mono ?_; rintro e w' ⟨rfl, rfl⟩)
          | (go_at_call 75; refine (in_at _ _ _ _ (by assumption)).mono ?_; rintro e w' ⟨rfl, rfl⟩))
        go_ret
        exact ⟨rfl, rfl⟩

set_option maxHeartbeats 1000000 in
theorem Long_i (a0 : Option Addr) (cap p : Nat) (l : List Int) (x y z v : Int) (w : World) (hB : IsB w a0 cap l) (hp : p ≤ l.length) (hx : byt l (p : Int).toNat = x) (hy : byt l ((p : Int) + 1).toNat = y) (hz : byt l ((p : Int) + 2).toNat = z) (hv : byt l ((p : Int) + 3).toNat = v) (hlo : 244 ≤ x) (hhi : x ≤ 244) :
    Calls Tryd.prog 50 #[.slice a0 l.length cap, .int .i64 p] w fun e w' => e = .returned (.int .i64 (tbl x y z v)) ∧ w' = w := by
  have hl : l.length ≤ 140737488351232 := by obtain ⟨h1, h2, _⟩ := hB; omega
  have x0 : rng x 0 127 = false := rng_f (by omega)
  have x1 : rng x 194 223 = false := rng_f (by omega)
  have x2 : rng x 225 236 = false := rng_f (by omega)
  have x3 : rng x 238 239 = false := rng_f (by omega)
  have x4 : rng x 241 243 = false := rng_f (by omega)
  have e224 : (x == 224) = false := by rw [beq_eq_false_iff_ne]; omega
  have e237 : (x == 237) = false := by rw [beq_eq_false_iff_ne]; omega
  have e240 : (x == 240) = false := by rw [beq_eq_false_iff_ne]; omega
  have e244 : (x == 244) = true := by rw [beq_iff_eq]; omega
  cases hyt : rng y 128 143 with
  | false =>
    cases hzt : rng z 128 191 with
    | false =>
      rw [show tbl x y z v = 0 by clear hx hy hz hv; simp [tbl, *]]
      go_enter Tryd.func50, Tryd.ntmps50
      go_wp2_with (first
        | (go_at_call 74; refine (at_at a0 cap l _ _ hB (by omega) (by assumption)).mono ?_; rintro e w' ⟨rfl, rfl⟩)
        | (go_at_call 75; refine (in_at _ _ _ _ (by assumption)).mono ?_; rintro e w' ⟨rfl, rfl⟩))
      go_ret
      exact ⟨rfl, rfl⟩
    | true =>
      cases hvt : rng v 128 191 with
      | false =>
        rw [show tbl x y z v = 0 by clear hx hy hz hv; simp [tbl, *]]
        go_enter Tryd.func50, Tryd.ntmps50
        go_wp2_with (first
          | (go_at_call 74; refine (at_at a0 cap l _ _ hB (by omega) (by assumption)).mono ?_; rintro e w' ⟨rfl, rfl⟩)
          | (go_at_call 75; refine (in_at _ _ _ _ (by assumption)).mono ?_; rintro e w' ⟨rfl, rfl⟩))
        go_ret
        exact ⟨rfl, rfl⟩
      | true =>
        rw [show tbl x y z v = 0 by clear hx hy hz hv; simp [tbl, *]]
        go_enter Tryd.func50, Tryd.ntmps50
        go_wp2_with (first
          | (go_at_call 74; refine (at_at a0 cap l _ _ hB (by omega) (by assumption)).mono ?_; rintro e w' ⟨rfl, rfl⟩)
          | (go_at_call 75; refine (in_at _ _ _ _ (by assumption)).mono ?_; rintro e w' ⟨rfl, rfl⟩))
        go_ret
        exact ⟨rfl, rfl⟩
  | true =>
    cases hzt : rng z 128 191 with
    | false =>
      rw [show tbl x y z v = 0 by clear hx hy hz hv; simp [tbl, *]]
      go_enter Tryd.func50, Tryd.ntmps50
      go_wp2_with (first
        | (go_at_call 74; refine (at_at a0 cap l _ _ hB (by omega) (by assumption)).mono ?_; rintro e w' ⟨rfl, rfl⟩)
        | (go_at_call 75; refine (in_at _ _ _ _ (by assumption)).mono ?_; rintro e w' ⟨rfl, rfl⟩))
      go_ret
      exact ⟨rfl, rfl⟩
    | true =>
      cases hvt : rng v 128 191 with
      | false =>
        rw [show tbl x y z v = 0 by clear hx hy hz hv; simp [tbl, *]]
        go_enter Tryd.func50, Tryd.ntmps50
        go_wp2_with (first
          | (go_at_call 74; refine (at_at a0 cap l _ _ hB (by omega) (by assumption)).mono ?_; rintro e w' ⟨rfl, rfl⟩)
          | (go_at_call 75; refine (in_at _ _ _ _ (by assumption)).mono ?_; rintro e w' ⟨rfl, rfl⟩))
        go_ret
        exact ⟨rfl, rfl⟩
      | true =>
        rw [show tbl x y z v = 4 by clear hx hy hz hv; simp [tbl, *]]
        go_enter Tryd.func50, Tryd.ntmps50
        go_wp2_with (first
          | (go_at_call 74; refine (at_at a0 cap l _ _ hB (by omega) (by assumption)).mono ?_; rintro e w' ⟨rfl, rfl⟩)
          | (go_at_call 75; refine (in_at _ _ _ _ (by assumption)).mono ?_; rintro e w' ⟨rfl, rfl⟩))
        go_ret
        exact ⟨rfl, rfl⟩

set_option maxHeartbeats 1000000 in
theorem Long_o (a0 : Option Addr) (cap p : Nat) (l : List Int) (x y z v : Int) (w : World) (hB : IsB w a0 cap l) (hp : p ≤ l.length) (hx : byt l (p : Int).toNat = x) (hy : byt l ((p : Int) + 1).toNat = y) (hz : byt l ((p : Int) + 2).toNat = z) (hv : byt l ((p : Int) + 3).toNat = v) (ho : x < 0 ∨ 127 < x ∧ x < 194 ∨ 244 < x) :
    Calls Tryd.prog 50 #[.slice a0 l.length cap, .int .i64 p] w fun e w' => e = .returned (.int .i64 (tbl x y z v)) ∧ w' = w := by
  have hl : l.length ≤ 140737488351232 := by obtain ⟨h1, h2, _⟩ := hB; omega
  have x0 : rng x 0 127 = false := rng_f (by omega)
  have x1 : rng x 194 223 = false := rng_f (by omega)
  have x2 : rng x 225 236 = false := rng_f (by omega)
  have x3 : rng x 238 239 = false := rng_f (by omega)
  have x4 : rng x 241 243 = false := rng_f (by omega)
  have e224 : (x == 224) = false := by rw [beq_eq_false_iff_ne]; omega
  have e237 : (x == 237) = false := by rw [beq_eq_false_iff_ne]; omega
  have e240 : (x == 240) = false := by rw [beq_eq_false_iff_ne]; omega
  have e244 : (x == 244) = false := by rw [beq_eq_false_iff_ne]; omega
  cases hzt : rng z 128 191 with
  | false =>
    rw [show tbl x y z v = 0 by clear hx hy hz hv; simp [tbl, *]]
    go_enter Tryd.func50, Tryd.ntmps50
    go_wp2_with (first
      | (go_at_call 74; refine (at_at a0 cap l _ _ hB (by omega) (by assumption)).mono ?_; rintro e w' ⟨rfl, rfl⟩)
      | (go_at_call 75; refine (in_at _ _ _ _ (by assumption)).mono ?_; rintro e w' ⟨rfl, rfl⟩))
    go_ret
    exact ⟨rfl, rfl⟩
  | true =>
    cases hvt : rng v 128 191 with
    | false =>
      rw [show tbl x y z v = 0 by clear hx hy hz hv; simp [tbl, *]]
      go_enter Tryd.func50, Tryd.ntmps50
      go_wp2_with (first
        | (go_at_call 74; refine (at_at a0 cap l _ _ hB (by omega) (by assumption)).mono ?_; rintro e w' ⟨rfl, rfl⟩)
        | (go_at_call 75; refine (in_at _ _ _ _ (by assumption)).mono ?_; rintro e w' ⟨rfl, rfl⟩))
      go_ret
      exact ⟨rfl, rfl⟩
    | true =>
      rw [show tbl x y z v = 0 by clear hx hy hz hv; simp [tbl, *]]
      go_enter Tryd.func50, Tryd.ntmps50
      go_wp2_with (first
        | (go_at_call 74; refine (at_at a0 cap l _ _ hB (by omega) (by assumption)).mono ?_; rintro e w' ⟨rfl, rfl⟩)
        | (go_at_call 75; refine (in_at _ _ _ _ (by assumption)).mono ?_; rintro e w' ⟨rfl, rfl⟩))
      go_ret
      exact ⟨rfl, rfl⟩

theorem Long_tbl (a0 : Option Addr) (cap p : Nat) (l : List Int) (w : World) (hB : IsB w a0 cap l) (hp : p ≤ l.length) :
    Calls Tryd.prog 50 #[.slice a0 l.length cap, .int .i64 p] w fun e w' => e = .returned (.int .i64 (tbl (byt l p) (byt l (p + 1)) (byt l (p + 2)) (byt l (p + 3)))) ∧ w' = w := by
  have hx : byt l (p : Int).toNat = byt l p := rfl
  have hy : byt l ((p : Int) + 1).toNat = byt l (p + 1) := rfl
  have hz : byt l ((p : Int) + 2).toNat = byt l (p + 2) := rfl
  have hv : byt l ((p : Int) + 3).toNat = byt l (p + 3) := rfl
  generalize byt l p = x at hx ⊢
  generalize byt l (p + 1) = y at hy ⊢
  generalize byt l (p + 2) = z at hz ⊢
  generalize byt l (p + 3) = v at hv ⊢
  have : (0 ≤ x ∧ x ≤ 127) ∨ (194 ≤ x ∧ x ≤ 223) ∨ (224 ≤ x ∧ x ≤ 224) ∨ (225 ≤ x ∧ x ≤ 236) ∨ (237 ≤ x ∧ x ≤ 237) ∨ (238 ≤ x ∧ x ≤ 239) ∨ (240 ≤ x ∧ x ≤ 240) ∨ (241 ≤ x ∧ x ≤ 243) ∨ (244 ≤ x ∧ x ≤ 244) ∨ (x < 0 ∨ 127 < x ∧ x < 194 ∨ 244 < x) := by omega
  rcases this with ⟨h1, h2⟩ | ⟨h1, h2⟩ | ⟨h1, h2⟩ | ⟨h1, h2⟩ | ⟨h1, h2⟩ | ⟨h1, h2⟩ | ⟨h1, h2⟩ | ⟨h1, h2⟩ | ⟨h1, h2⟩ | h
  · exact Long_a a0 cap p l x y z v w hB hp hx hy hz hv h1 h2
  · exact Long_b a0 cap p l x y z v w hB hp hx hy hz hv h1 h2
  · exact Long_c a0 cap p l x y z v w hB hp hx hy hz hv h1 h2
  · exact Long_d a0 cap p l x y z v w hB hp hx hy hz hv h1 h2
  · exact Long_e a0 cap p l x y z v w hB hp hx hy hz hv h1 h2
  · exact Long_f a0 cap p l x y z v w hB hp hx hy hz hv h1 h2
  · exact Long_g a0 cap p l x y z v w hB hp hx hy hz hv h1 h2
  · exact Long_h a0 cap p l x y z v w hB hp hx hy hz hv h1 h2
  · exact Long_i a0 cap p l x y z v w hB hp hx hy hz hv h1 h2
  · exact Long_o a0 cap p l x y z v w hB hp hx hy hz hv h

end Go.Proofs.YtkdnanlgkedjgaaDoor
end

section
namespace Go.Proofs.YtkdnanlgkedjgaaDoor

theorem byt_drop (l : List Int) (p k : Nat) : byt l (p + k) = byt (l.drop p) k := by
  unfold byt
  simp only [List.length_drop, getD_drop']
  by_cases h : p + k < l.length
  · rw [if_pos h, if_pos (by omega)]
  · rw [if_neg h, if_neg (by omega)]
theorem rng_eq (x lo hi : Int) : rng x lo hi = decide (lo ≤ x ∧ x ≤ hi) := rfl
theorem byt_nil (k : Nat) : byt [] k = -1 := by simp [byt]
theorem byt_cons (a : Int) (r : List Int) : byt (a :: r) 0 = a := by simp [byt]
theorem byt_succ (a : Int) (r : List Int) (k : Nat) : byt (a :: r) (k + 1) = byt r k := by simp [byt]

/-- no encoding begins here -/
theorem tbl_0 {x y z v : Int} (h : x < 0 ∨ 127 < x ∧ x < 194 ∨ 244 < x) : tbl x y z v = 0 := by
  have x0 : rng x 0 127 = false := rng_f (by omega)
  have x1 : rng x 194 223 = false := rng_f (by omega)
  have x2 : rng x 225 236 = false := rng_f (by omega)
  have x3 : rng x 238 239 = false := rng_f (by omega)
  have x4 : rng x 241 243 = false := rng_f (by omega)
  have e0 : (x == 224) = false := by rw [beq_eq_false_iff_ne]; omega
  have e1 : (x == 237) = false := by rw [beq_eq_false_iff_ne]; omega
  have e2 : (x == 240) = false := by rw [beq_eq_false_iff_ne]; omega
  have e3 : (x == 244) = false := by rw [beq_eq_false_iff_ne]; omega
  simp [tbl, *]
theorem tbl_1 {x y z v : Int} (h0 : 0 ≤ x) (h : x ≤ 127) : tbl x y z v = 1 := by
  have x0 : rng x 0 127 = true := rng_t (by omega) (by omega)
  simp [tbl, x0]
theorem tbl_2 {x y z v : Int} (h0 : 194 ≤ x) (h : x ≤ 223) : tbl x y z v = if rng y 128 191 then 2 else 0 := by
  have x0 : rng x 0 127 = false := rng_f (by omega)
  have x1 : rng x 194 223 = true := rng_t (by omega) (by omega)
  have x2 : rng x 225 236 = false := rng_f (by omega)
  have x3 : rng x 238 239 = false := rng_f (by omega)
  have x4 : rng x 241 243 = false := rng_f (by omega)
  have e0 : (x == 224) = false := by rw [beq_eq_false_iff_ne]; omega
  have e1 : (x == 237) = false := by rw [beq_eq_false_iff_ne]; omega
  have e2 : (x == 240) = false := by rw [beq_eq_false_iff_ne]; omega
  have e3 : (x == 244) = false := by rw [beq_eq_false_iff_ne]; omega
  simp [tbl, *]
theorem tbl_3 {x y z v : Int} (h0 : 224 ≤ x) (h : x ≤ 239) : tbl x y z v = if sec x y && isTail z then 3 else 0 := by
  have x0 : rng x 0 127 = false := rng_f (by omega)
  have x1 : rng x 194 223 = false := rng_f (by omega)
  have x4 : rng x 241 243 = false := rng_f (by omega)
  have e2 : (x == 240) = false := by rw [beq_eq_false_iff_ne]; omega
  have e3 : (x == 244) = false := by rw [beq_eq_false_iff_ne]; omega
  have ht : rng z 128 191 = isTail z := by unfold rng isTail; congr 1; apply propext; constructor <;> intro h <;> omega
  have hs : ((x == 224) && rng y 160 191 || rng x 225 236 && rng y 128 191 || (x == 237) && rng y 128 159 || rng x 238 239 && rng y 128 191) = sec x y := by
    rw [Bool.eq_iff_iff]
    simp only [rng, sec, Bool.or_eq_true, Bool.and_eq_true, beq_iff_eq, decide_eq_true_eq]
    omega
  simp only [tbl, x0, x1, x4, e2, e3, Bool.false_and, Bool.and_false, Bool.or_false, Bool.false_eq_true, if_false, hs, ht]
  cases isTail z <;> cases sec x y <;> rfl
theorem tbl_4 {x y z v : Int} (h0 : 240 ≤ x) (h : x ≤ 244) : tbl x y z v = if sec x y && (isTail z && isTail v) then 4 else 0 := by
  have x0 : rng x 0 127 = false := rng_f (by omega)
  have x1 : rng x 194 223 = false := rng_f (by omega)
  have x2 : rng x 225 236 = false := rng_f (by omega)
  have x3 : rng x 238 239 = false := rng_f (by omega)
  have e0 : (x == 224) = false := by rw [beq_eq_false_iff_ne]; omega
  have e1 : (x == 237) = false := by rw [beq_eq_false_iff_ne]; omega
  have ht : rng z 128 191 = isTail z := by unfold rng isTail; congr 1; apply propext; constructor <;> intro h <;> omega
  have hv : rng v 128 191 = isTail v := by unfold rng isTail; congr 1; apply propext; constructor <;> intro h <;> omega
  have hs : ((x == 240) && rng y 144 191 || rng x 241 243 && rng y 128 191 || (x == 244) && rng y 128 143) = sec x y := by
    rw [Bool.eq_iff_iff]
    simp only [rng, sec, Bool.or_eq_true, Bool.and_eq_true, beq_iff_eq, decide_eq_true_eq]
    omega
  simp only [tbl, x0, x1, x2, x3, e0, e1, Bool.false_and, Bool.and_false, Bool.or_false, Bool.false_eq_true, if_false, hs, ht, hv]
  cases isTail z <;> cases isTail v <;> cases sec x y <;> rfl

theorem sec_none {x : Int} : sec x (-1) = false := decide_eq_false (by omega)
theorem tail_none : isTail (-1) = false := by decide

theorem tbl_lng (l : List Int) (hl : ∀ x ∈ l, 0 ≤ x ∧ x ≤ 255) : tbl (byt l 0) (byt l 1) (byt l 2) (byt l 3) = lng l := by
  match l, hl with
  | [], _ => rw [byt_nil, tbl_0 (by omega)]; rfl
  | a :: r, hl =>
    have ha := hl a (by simp)
    rw [byt_cons, byt_succ a r 0, byt_succ a r 1, byt_succ a r 2]
    have : a ≤ 127 ∨ (127 < a ∧ a < 194 ∨ 244 < a) ∨ (194 ≤ a ∧ a ≤ 223) ∨ (224 ≤ a ∧ a ≤ 239) ∨ (240 ≤ a ∧ a ≤ 244) := by omega
    rcases this with h | h | h | h | h
    · rw [tbl_1 ha.1 h]
      have hn := need_1' (a := a) (by omega)
      have hw : whole [a] = true := whole_one hn
      simp only [lng, hn]
      show 1 = if whole [a] = true then 1 else 0
      rw [if_pos hw]
    · rw [tbl_0 (by omega)]
      have hn := need_0' (a := a) (by omega)
      simp only [lng, hn]
      rfl
    · rw [tbl_2 h.1 h.2]
      have hn := need_2' (a := a) (by omega) (by omega)
      cases r with
      | nil =>
        rw [byt_nil]
        have hw : whole [a] = false := whole_len (by simp; omega)
        simp only [lng, hn]
        show (if rng (-1) 128 191 = true then 2 else 0) = if whole [a] = true then 2 else 0
        rw [hw]; rfl
      | cons b t =>
        have hw : whole [a, b] = sec a b := by rw [whole_more (by rw [hn]; rfl)]; simp
        have hs : rng b 128 191 = sec a b := by
          rw [Bool.eq_iff_iff]
          simp only [rng, sec, decide_eq_true_eq]
          omega
        rw [byt_cons, hs]
        simp only [lng, hn]
        show (if sec a b = true then 2 else 0) = if whole [a, b] = true then 2 else 0
        rw [hw]
    · rw [tbl_3 h.1 h.2]
      have hn := need_3' (a := a) (by omega) (by omega)
      match r with
      | [] =>
        rw [byt_nil, sec_none]
        have hw : whole [a] = false := whole_len (by simp; omega)
        simp only [lng, hn]
        show 0 = if whole [a] = true then 3 else 0
        rw [hw]; rfl
      | [b] =>
        rw [byt_succ, byt_nil, tail_none, Bool.and_false]
        have hw : whole [a, b] = false := whole_len (by simp; omega)
        simp only [lng, hn]
        show 0 = if whole [a, b] = true then 3 else 0
        rw [hw]; rfl
      | b :: c :: t =>
        have hw : whole [a, b, c] = (sec a b && isTail c) := by rw [whole_more (by rw [hn]; rfl)]; simp
        rw [byt_cons, byt_succ, byt_cons]
        simp only [lng, hn]
        show (if (sec a b && isTail c) = true then 3 else 0) = if whole [a, b, c] = true then 3 else 0
        rw [hw]
    · rw [tbl_4 h.1 h.2]
      have hn := need_4' (a := a) (by omega) (by omega)
      match r with
      | [] =>
        rw [byt_nil, sec_none]
        have hw : whole [a] = false := whole_len (by simp; omega)
        simp only [lng, hn]
        show 0 = if whole [a] = true then 4 else 0
        rw [hw]; rfl
      | [b] =>
        rw [byt_succ, byt_nil, tail_none, Bool.false_and, Bool.and_false]
        have hw : whole [a, b] = false := whole_len (by simp; omega)
        simp only [lng, hn]
        show 0 = if whole [a, b] = true then 4 else 0
        rw [hw]; rfl
      | [b, c] =>
        rw [byt_succ b [c] 1, byt_succ c [] 0, byt_nil, tail_none, Bool.and_false, Bool.and_false]
        have hw : whole [a, b, c] = false := whole_len (by simp; omega)
        simp only [lng, hn]
        show 0 = if whole [a, b, c] = true then 4 else 0
        rw [hw]; rfl
      | b :: c :: d :: t =>
        have hw : whole [a, b, c, d] = (sec a b && (isTail c && isTail d)) := by rw [whole_more (by rw [hn]; rfl)]; simp
        rw [byt_cons, byt_succ, byt_cons, byt_succ b _ 1, byt_succ c _ 0, byt_cons]
        simp only [lng, hn]
        show (if (sec a b && (isTail c && isTail d)) = true then 4 else 0) = if whole [a, b, c, d] = true then 4 else 0
        rw [hw]

theorem Long_at (a0 : Option Addr) (cap p : Nat) (l : List Int) (w : World) (hB : IsB w a0 cap l) (hp : p ≤ l.length) :
    Calls Tryd.prog 50 #[.slice a0 l.length cap, .int .i64 p] w fun e w' => e = .returned (.int .i64 (lng (l.drop p))) ∧ w' = w := by
  have := Long_tbl a0 cap p l w hB hp
  have hl := hB.2.2.2
  rw [byt_drop l p 1, byt_drop l p 2, byt_drop l p 3, show byt l p = byt (l.drop p) 0 from byt_drop l p 0, tbl_lng _ (fun x hx => hl x (List.mem_of_mem_drop hx))] at this
  exact this

end Go.Proofs.YtkdnanlgkedjgaaDoor
end

section
namespace Go.Proofs.YtkdnanlgkedjgaaDoor
open Go.ChangeShapes Go.WideShapes Go.ChangeAt Go.RowKit

theorem inside_f {l : List Int} {p : Nat} (hno : ∀ j, 1 ≤ j → j ≤ 3 → j ≤ p → ¬ j < lng (l.drop (p - j))) : inside l p = false := by
  have := flr_no hno
  rwa [flr_inside] at this
theorem inside_t {l : List Int} {q k : Nat} (h1 : 1 ≤ k) (h : k < lng (l.drop q)) : inside l (q + k) = true := (inside_iff _ _).2 ⟨q, by omega, by omega⟩

set_option maxHeartbeats 400000 in
theorem Inside_at (a0 : Option Addr) (cap p : Nat) (l : List Int) (w : World) (hB : IsB w a0 cap l) (hp : p ≤ l.length) :
    Calls Tryd.prog 33 #[.slice a0 l.length cap, .int .i64 p] w fun e w' => e = .returned (.bool (inside l p)) ∧ w' = w := by
  have hl : l.length ≤ 140737488351232 := by obtain ⟨h1, h2, _⟩ := hB; omega
  go_enter Tryd.func33, Tryd.ntmps33
  go_wp2
  go_loop [5] (fun i => ∃ k : Nat, 1 ≤ k ∧ k ≤ 4 ∧ i = .int .i64 k ∧ (∀ j, 1 ≤ j → j < k → j ≤ p → ¬ j < lng (l.drop (p - j)))) (fun i => 4 - (intOf i).toNat)
  case atStart => exact ⟨1, by omega, by omega, rfl, fun j h1 h2 => absurd h1 (by omega)⟩
  case round =>
    obtain ⟨k, hk1, hk4, rfl, hno⟩ := hrel
    have Hno := hide hno
    clear hno
    by_cases hk3 : k ≤ 3
    · by_cases hkp : k ≤ p
      · obtain ⟨q, hq⟩ : ∃ q, p = q + k := ⟨p - k, by omega⟩
        have hqk : (p : Int) - (k : Int) = (q : Int) := by omega
        have hql : q ≤ l.length := by omega
        have hpq : p - k = q := by omega
        have d0 : decide (0 ≤ (q : Int)) = true := decide_eq_true (by omega)
        by_cases hlk : k < lng (l.drop q)
        · have HE : Hid (inside l p = true) := hide (by rw [hq]; exact inside_t hk1 hlk)
          clear hq hpq
          go_wp2_with (go_at_call 50; refine (Long_at a0 cap q l _ hB hql).mono ?_; rintro e w' ⟨rfl, rfl⟩)
          all_goals go_ret
          all_goals exact ⟨ret_bool (unhide HE).symm, rfl⟩
        · have HK := hide hlk
          have HP := hide hpq
          clear hq hpq
          go_wp2_with (go_at_call 50; refine (Long_at a0 cap q l _ hB hql).mono ?_; rintro e w' ⟨rfl, rfl⟩)
          refine ⟨⟨k + 1, by omega, by omega, by go_num, fun j h1 h2 h3 => ?_⟩, by simp [intOf]; omega⟩
          by_cases hj : j = k
          · subst hj; rw [unhide HP]; exact unhide HK
          · exact unhide Hno j h1 (by omega) h3
      · have hneg : (p : Int) - (k : Int) < 0 := by omega
        have d0 : decide (0 ≤ (p : Int) - (k : Int)) = false := decide_eq_false (by omega)
        go_wp2
        refine ⟨⟨k + 1, by omega, by omega, by go_num, fun j h1 h2 h3 => ?_⟩, by simp [intOf]; omega⟩
        exact unhide Hno j h1 (by omega) h3
    · have HE : Hid (inside l p = false) := hide (inside_f (fun j h1 h2 h3 => unhide Hno j h1 (by omega) h3))
      go_wp2
      all_goals go_ret
      all_goals exact ⟨ret_bool (unhide HE).symm, rfl⟩

theorem Inside_is (a0 : Option Addr) (cap p : Nat) (l : List Int) {v : Bool} (w : World) (hB : IsB w a0 cap l) (hp : p ≤ l.length) (h : inside l p = v) :
    Calls Tryd.prog 33 #[.slice a0 l.length cap, .int .i64 p] w fun e w' => e = .returned (.bool v) ∧ w' = w := by
  subst h
  exact Inside_at a0 cap p l w hB hp

/-- where an encoding begins, its parts -/
theorem lng_parts {l : List Int} {p n : Nat} (h : lng (l.drop p) = n + 1) : ∃ a r, l.drop p = a :: r ∧ need a = ((n + 1 : Nat) : Int) ∧ whole (a :: r.take n) = true ∧ n ≤ r.length := by
  cases hd : l.drop p with
  | nil => rw [hd] at h; simp [lng] at h
  | cons a r =>
    rw [hd] at h
    have hlen := lng_len (a :: r)
    rw [h] at hlen
    simp only [lng] at h
    split at h
    · rename_i hw
      have := need_lo a
      rw [h, List.take_succ_cons] at hw
      refine ⟨a, r, rfl, by omega, hw, by simpa using hlen⟩
    · omega
theorem stp_bad {l : List Int} (h : lng l = 0) : stp l = stepV 65533 1 false := by
  cases l with
  | nil => simp [stp, wid, whl, first, lng]
  | cons a r =>
    have hw : wid (a :: r) = 1 := by rw [wid_lng, if_pos h]
    have hf : (first (a :: r)).1 = 65533 := by
      simp only [first]
      split
      · rename_i hw
        simp only [lng, if_pos hw] at h
        rw [h] at hw
        cases hw
      · rfl
    simp [stp, hw, hf, whl, h]
theorem stp_whole {l : List Int} {a : Int} {r : List Int} {n : Nat} (hl : l = a :: r) (hn : need a = ((n + 1 : Nat) : Int)) (hw : whole (a :: r.take n) = true) : stp l = stepV (fold (lead a) (r.take n)) (n + 1) true := by
  subst hl
  have e : (a :: r).take (need a).toNat = a :: r.take n := by rw [hn]; rfl
  have hl : lng (a :: r) = n + 1 := by
    show (if whole ((a :: r).take (need a).toNat) = true then (need a).toNat else 0) = n + 1
    rw [e, if_pos hw, hn]; rfl
  have hv : first (a :: r) = (fold (lead a) (r.take n), n + 1) := by
    show (if whole ((a :: r).take (need a).toNat) = true then (value ((a :: r).take (need a).toNat), (need a).toNat) else (65533, 1)) = _
    rw [e, if_pos hw, hn, value_yes hw]; rfl
  simp [stp, wid, whl, hl, hv]

end Go.Proofs.YtkdnanlgkedjgaaDoor
end

section
namespace Go.Proofs.YtkdnanlgkedjgaaDoor
open Go.ChangeShapes Go.WideShapes Go.ChangeAt Go.RowKit

theorem flr_last {l : List Int} {p q : Nat} (h1 : flr l p ≤ q) (h2 : q ≤ p) (h : inside l q = false) : q = flr l p := by
  cases hi : inside l p with
  | false => rw [flr_eq hi] at h1 ⊢; omega
  | true =>
    obtain ⟨a, b⟩ := flr_over hi
    rcases Nat.eq_or_lt_of_le h1 with e | e
    · exact e.symm
    · have := (inside_iff l q).2 ⟨flr l p, e, by omega⟩
      rw [h] at this; cases this
theorem flr_more {l : List Int} {p q : Nat} (h1 : flr l p ≤ q) (h : inside l q = true) : flr l p ≤ q - 1 ∧ 1 ≤ q := by
  have he := flr_edge l p
  rcases Nat.eq_or_lt_of_le h1 with e | e
  · rw [e, h] at he; cases he
  · omega
theorem ceil_ge (l : List Int) (p : Nat) : p ≤ ceil l p := by
  unfold ceil
  split
  · rename_i h; have := flr_wid h; omega
  · exact Nat.le_refl _
theorem ceil_le {l : List Int} {p : Nat} (hp : p ≤ l.length) : ceil l p ≤ l.length := by
  unfold ceil
  split
  · rename_i h; have := flr_wid h; exact wid_len (by omega)
  · exact hp
theorem ceil_edge {l : List Int} {p : Nat} (hp : p ≤ l.length) : inside l (ceil l p) = false := by
  unfold ceil
  cases h : inside l p with
  | false => simpa using h
  | true => have := flr_wid h; simp only [if_true]; exact edge_next (flr_edge l p) (by omega)
theorem ceil_last {l : List Int} {p q : Nat} (hp : p ≤ l.length) (h1 : p ≤ q) (h2 : q ≤ ceil l p) (h : inside l q = false) : q = ceil l p := by
  unfold ceil at h2 ⊢
  cases hi : inside l p with
  | false => rw [hi] at h2; simp at h2 ⊢; omega
  | true =>
    rw [hi] at h2
    simp only [if_true] at h2 ⊢
    obtain ⟨a, b⟩ := flr_wid hi
    rcases Nat.eq_or_lt_of_le h2 with e | e
    · exact e
    · have := edge_between (l := l) (p := flr l p) (k := q - flr l p) (by omega) (by omega) (by omega)
      rw [show flr l p + (q - flr l p) = q by omega, h] at this; cases this
theorem ceil_more {l : List Int} {p q : Nat} (hp : p ≤ l.length) (h2 : q ≤ ceil l p) (h : inside l q = true) : q + 1 ≤ ceil l p := by
  have he := ceil_edge hp
  rcases Nat.eq_or_lt_of_le h2 with e | e
  · rw [← e, h] at he; cases he
  · omega

end Go.Proofs.YtkdnanlgkedjgaaDoor
end

section
namespace Go.Proofs.YtkdnanlgkedjgaaDoor
open Go.ChangeShapes Go.WideShapes Go.ChangeAt Go.RowKit
attribute [local go_sem] Oper.semAt_some

set_option maxHeartbeats 1000000 in
theorem EdgesD_at (a0 : Option Addr) (cap : Nat) (l : List Int) (w : World) (hB : IsB w a0 cap l) (hl : l.length ≤ 1048576) :
    Calls Tryd.prog 40 #[.slice a0 l.length cap] w fun e w' => ∃ v, e = .returned v ∧ w'.ownsRow w.heap.size 3 1 v (cutS l).length (intsN (cutS l)) ∧ Below w.heap.size w w' := by
  go_enter Tryd.func40, Tryd.ntmps40
  go_wp2
  go_loopw [3, 4] (fun v i wx => ∃ p : Nat, p ≤ l.length + 1 ∧ i = .int .i64 p ∧ Hid (wx.ownsRow w.heap.size 3 1 v (edgesTo l p).length (intsN (edgesTo l p))) ∧ Below w.heap.size w wx) (fun _ i _ => l.length + 1 - (intOf i).toNat)
  case atStart => exact ⟨0, by omega, rfl, World.ownsRow_nil _ _ _ _, Below.refl _ _⟩
  case round =>
    obtain ⟨p, hp, rfl, ho, hb⟩ := hrel
    by_cases hlt : p ≤ l.length
    · cases hi : inside l p with
      | true =>
        have HI := hide hi
        have he := edgesTo_no hi
        clear hi
        have hBx := hB.below hb (Nat.le_refl _)
        go_wp2_with (go_at_call 33; refine (Inside_is a0 cap p l _ hBx hlt (unhide HI)).mono ?_; rintro e w' ⟨rfl, rfl⟩)
        go_roundw
        case rel => exact ⟨p + 1, by omega, by go_num, by rw [he]; exact ho, hb⟩
        case measure => simp [intOf]; omega
      | false =>
        have HI := hide hi
        have he := edgesTo_yes hi
        have hle := edgesTo_len l p
        clear hi
        have hBx := hB.below hb (Nat.le_refl _)
        obtain ⟨g, c, w2, r2, o2, x2⟩ := push_intS _ _ _ _ _ (p : Int) 51 (unhide ho) (by omega) hb.size
        have R2 := hide r2
        clear r2
        go_wp2_with (first
          | (go_at_call 33; refine (Inside_is a0 cap p l _ hBx hlt (unhide HI)).mono ?_; rintro e w' ⟨rfl, rfl⟩)
          | (at_builtin; refine wpList_append_known rfl _ _ 51 51 rfl _ _ rfl rfl _ _ (unhide R2) ?_))
        go_roundw
        case rel => exact ⟨p + 1, by omega, by go_num, by rw [he, List.length_append, intsN_snoc]; exact hide o2, hb.trans x2⟩
        case measure => simp [intOf]; omega
    · obtain rfl : p = l.length + 1 := by omega
      have ho' := unhide ho
      rw [edges_all] at ho'
      clear ho
      go_wp2
      go_ret
      exact ⟨_, rfl, ho', hb⟩
/-- texts in a row -/
def txC (ps : List (List Int)) : List Value := ps.map fun p => .string (strOfNums p)
def IsTx (X : World) (a : Option Addr) (ps : List (List Int)) : Prop := ps = [] ∨ ∃ g off, a = some ⟨g, off, none⟩ ∧ g < X.heap.size ∧ ∀ k, k < ps.length → X.cell? ⟨g, off + k, none⟩ = some (.string (strOfNums (ps.getD k [])))
theorem IsTx.below {X Y : World} {B : Nat} {a : Option Addr} {ps : List (List Int)} (h : IsTx X a ps) (hb : Below B X Y) (hB : X.heap.size ≤ B) : IsTx Y a ps := by
  rcases h with h | ⟨g, off, h1, h2, h3⟩
  · exact .inl h
  · exact .inr ⟨g, off, h1, Nat.lt_of_lt_of_le h2 hb.size, fun k hk => (hb.cell (p := ⟨g, off + k, none⟩) (Nat.lt_of_lt_of_le h2 hB)).trans (h3 k hk)⟩
theorem ra_txs {X : World} {v : Value} {ps : List (List Int)} {k : Option Nat} (h : RA X 1 v ps.length (txC ps) k) : ∃ a c, v = .slice a ps.length c ∧ IsTx X a ps := by
  rcases h.val with ⟨rfl, h0, _⟩ | ⟨g, off, c, rfl, _, hg, _, _, hc⟩
  · exact ⟨none, 0, by rw [h0], .inl (List.length_eq_zero_iff.1 h0)⟩
  · refine ⟨_, c, rfl, .inr ⟨g, off, rfl, hg, fun j hj => ?_⟩⟩
    rw [hc _ (by omega)]
    simp [txC, List.getD, List.getElem?_eq_getElem hj]
set_option maxRecDepth 100000 in
theorem push_txt (W : World) (v : Value) (n : Nat) (xs : List Value) (k : Option Nat) (s : ByteArray) (ty : TypeId) (h : RA W 1 v n xs k) (hn : n ≤ 1000000000) :
    ∃ v' Y k', (Builtin.append_ #[48, 48] ty #[v, .slice (some ⟨W.heap.size, 0, none⟩) 1 1]).run Tryd.prog (W.alloc (.cells #[.string s] 9)) = .ok v' Y ∧
      RA Y 1 v' (n + 1) (xs ++ [.string s]) k' ∧ KpF (fun b => k = some b) W Y ∧ ∀ G, k' = some G → (k = some G ∨ W.heap.size ≤ G) := by
  have h1 := h.allocd (.cells #[.string s] 9)
  obtain ⟨v', Y, k', hr, h2, h3, h4⟩ := h1.push (P := Tryd.prog) 48 ty 9 _ _ 16 Tryd.underlying48 rfl rfl rfl rfl rfl ⟨W.heap.size, 0, none⟩ 1 [.string s] rfl (fun j u hj => by
      cases j with
      | zero => simp at hj; subst hj; rw [Addr.add_lit]; exact (World.cell?_alloc_mark W _ _ (0, 0) 0).trans rfl
      | succ j => simp at hj) (fun u hu => by simp at hu; subst hu; rfl) hn (by omega)
  refine ⟨v', Y, k', hr, h2, (KpF.alloc (fun b => k = some b) W _).trans h3 (fun _ _ g => g), fun G hG => ?_⟩
  rcases h4 with ⟨e, _⟩ | e
  · exact .inl (e ▸ hG)
  · rw [e] at hG; cases hG; refine .inr ?_; simp
/-- what the loop over the edges keeps -/
structure TxI (w X : World) (ps : List (List Int)) (v : Value) : Prop where
  row : ∃ k, RA X 1 v ps.length (txC ps) k ∧ ∀ G, k = some G → w.heap.size ≤ G
  b : Below w.heap.size w X
theorem TxI.push {w X : World} {ps : List (List Int)} {v : Value} (h : TxI w X ps v) (p : List Int) (ty : TypeId) (hn : ps.length ≤ 2000000) :
    ∃ v' Y, (Builtin.append_ #[48, 48] ty #[v, .slice (some ⟨X.heap.size, 0, none⟩) 1 1]).run Tryd.prog (X.alloc (.cells #[.string (strOfNums p)] 9)) = .ok v' Y ∧ TxI w Y (ps ++ [p]) v' ∧ Below w.heap.size X Y := by
  obtain ⟨k, h1, h2⟩ := h.row
  obtain ⟨v', Y, k', r1, r2, r3, r4⟩ := push_txt X v ps.length (txC ps) k (strOfNums p) ty h1 (by omega)
  have hz := h.b.size
  have hb := r3.below hz (fun b e => h2 b e)
  refine ⟨v', Y, r1, ⟨⟨k', ?_, fun G hG => ?_⟩, h.b.trans hb⟩, hb⟩
  · rw [List.length_append, List.length_singleton, show txC (ps ++ [p]) = txC ps ++ [.string (strOfNums p)] by simp [txC]]; exact r2
  · rcases r4 G hG with e | e
    · exact h2 G e
    · omega
theorem TxI.dr {w X : World} {ps : List (List Int)} {v : Value} (h : TxI w X ps v) : TxI w X.drew ps v := by
  obtain ⟨k, h1, h2⟩ := h.row
  exact ⟨⟨k, h1.dN 1, h2⟩, h.b.drew⟩
set_option maxRecDepth 100000 in
set_option maxHeartbeats 4000000 in
theorem RSteps_at (a0 : Option Addr) (c0 : Nat) (l : List Int) (w : World) (hB : IsB w a0 c0 l) (hl : l.length ≤ 1048576) :
    Calls Tryd.prog 25 #[.slice a0 l.length c0] w fun e w' => ∃ v, e = .returned v ∧ TxI w w' (cutP l (cutS l)) v := by
  have HC := hide (EdgesD_at a0 c0 l w hB hl)
  have HB := hide hB
  have hcap := hB.1
  have hln := (cutS_ok l).len
  have hps := (cutS_ok l).pos
  clear hB
  go_enter Tryd.func25, Tryd.ntmps25
  go_wp2_with fail
  refine (unhide HC).mono ?_
  rintro e w1 ⟨v, rfl, ho, hb1⟩
  dsimp only
  obtain ⟨a1, c1, rfl, hi1, _⟩ := own_isI ho
  have HI := hide hi1
  have HB1 := hide hb1
  clear HC ho hi1 hb1
  have H0 : Hid (TxI w1 w1 ((cutP l (cutS l)).take 0) (.slice none 0 0)) := hide ⟨⟨none, RA.nil w1 1, fun _ e => by cases e⟩, Below.refl _ _⟩
  go_wp2_with fail
  go_loopw [3, 5] (fun v3 v5 wx => ∃ i : Nat, v5 = .int .i64 (i : Int) ∧ i + 1 ≤ (cutS l).length ∧ Hid (TxI w1 wx ((cutP l (cutS l)).take i) v3)) (fun _ v5 _ => (cutS l).length - (intOf v5).toNat)
  case atStart => exact ⟨0, rfl, hps, H0⟩
  case round =>
    clear H0
    obtain ⟨i, rfl, hi1, HT⟩ := hrel
    by_cases h1 : i + 1 < (cutS l).length
    · have t1 : decide ((i : Int) + 1 < ((cutS l).length : Int)) = true := decide_eq_true (by omega)
      have hbx := (unhide HT).b
      obtain ⟨g, off, rfl, hg, cx⟩ := ((unhide HI).below hbx (Nat.le_refl _)).at (k := i) (by omega)
      have k1 := cx i (by omega)
      have k2 := cx (i + 1) h1
      have f1 : (i : Int) < ((cutS l).length : Int) := by omega
      have f2 : (i : Int) + 1 < ((cutS l).length : Int) := by omega
      have f3 : (0 : Int) ≤ (i : Int) := by omega
      have f4 : (0 : Int) ≤ (i : Int) + 1 := by omega
      have m1 := (cutS_ok l).le (show i ≤ i + 1 by omega) h1
      have m2 := (cutS_ok l).at_le h1
      have HCT := hide (cut_take (l := l) h1)
      obtain ⟨A, hA⟩ : ∃ A, (if c0 = (cutS l).getD i 0 then a0 else a0.map (·.add ((cutS l).getD i 0))) = A := ⟨_, rfl⟩
      have HBT : ∀ X, Below w.heap.size w X → IsB X A (c0 - (cutS l).getD i 0) (subL l ((cutS l).getD i 0) ((cutS l).getD (i + 1) 0)) := fun X hX => by rw [← hA]; exact (((unhide HB).below hX (Nat.le_refl _)).loD (n := (cutS l).getD i 0)).takeD (n := (cutS l).getD (i + 1) 0 - (cutS l).getD i 0)
      have htl : (cutS l).getD (i + 1) 0 - (cutS l).getD i 0 = (subL l ((cutS l).getD i 0) ((cutS l).getD (i + 1) 0)).length := (sub_len (cutS_ok l) (by omega) h1).symm
      generalize subL l ((cutS l).getD i 0) ((cutS l).getD (i + 1) 0) = pp at *
      obtain ⟨v', Y, hr, hn, hy⟩ := (unhide HT).dr.push pp 48 (by rw [List.length_take]; omega)
      have XA : Below w.heap.size w wr := (unhide HB1).trans (hbx.mono (unhide HB1).size)
      have S0 : wr.drew.cell? ⟨g, off + i, none⟩ = some (.int .i64 (((cutS l).getD i 0 : Nat) : Int)) ∧ wr.drew.cell? ⟨g, off + (i + 1), none⟩ = some (.int .i64 (((cutS l).getD (i + 1) 0 : Nat) : Int)) ∧ (convert 22 9 (.slice A pp.length (c0 - (cutS l).getD i 0))).run Tryd.prog wr.drew = .ok (.string (strOfNums pp)) wr.drew := ⟨k1, k2, str_bs _ A _ pp (HBT _ XA.drew).2.2.1⟩
      have b2 := XA.drew.alloc XA.drew.size (.cells #[.string (strOfNums pp)] 9)
      have hgw : g < w1.heap.size := by
        obtain ⟨_, _, e, h, _⟩ := (unhide HI).at (k := i) (by omega)
        cases e; exact h
      have hal : ∀ {o : Nat} {x : Value}, wr.drew.cell? ⟨g, o, none⟩ = some x → (wr.drew.alloc (.cells #[.string (strOfNums pp)] 9)).cell? ⟨g, o, none⟩ = some x := fun h => (World.cell?_of_block (a := ⟨_, _, none⟩) (heap_alloc_old _ _ (cell_lt h))).trans h
      have S1 := And.intro (hal S0.1) (And.intro (hal S0.2.1) (str_bs _ A (c0 - (cutS l).getD i 0) pp (HBT _ b2).2.2.1))
      have S2 := And.intro ((hy.cell (p := ⟨g, off + i, none⟩) hgw).trans S0.1) (And.intro ((hy.cell (p := ⟨g, off + (i + 1), none⟩) hgw).trans S0.2.1) (str_bs _ A (c0 - (cutS l).getD i 0) pp (HBT _ (XA.drew.trans (hy.mono (unhide HB1).size))).2.2.1))
      have R1 := hide hr
      have HN := hide hn
      clear HBT hr hn hy b2 hal XA cx HT hbx k1 k2 hg hgw
      generalize (cutS l).getD i 0 = lo at *
      generalize (cutS l).getD (i + 1) 0 = hi at *
      have e1 : IntKind.i64.wrap ((i : Int) + 1) = (i : Int) + 1 := by rw [IntKind.wrap_i64]; omega
      have f5 : (lo : Int) ≤ (hi : Int) := by clear e1; omega
      have f6 : (hi : Int) ≤ (c0 : Int) := by clear e1; omega
      have f7 : hi ≤ c0 := by clear e1; omega
      have f8 : (0 : Int) ≤ (lo : Int) := by clear e1; omega
      go_wp2_with fail
      refine regionL (S := fun w' => w'.cell? ⟨g, off + i, none⟩ = some (.int .i64 (lo : Int)) ∧ w'.cell? ⟨g, off + (i + 1), none⟩ = some (.int .i64 (hi : Int)) ∧ (convert 22 9 (.slice A pp.length (c0 - lo))).run Tryd.prog w' = .ok (.string (strOfNums pp)) w') (fun _ => false) (by kernel_rfl) ?_
      generalize wr.drew = v2 at *
      refine anyL_take (i := 0) (v := ?vq0) rfl (by kernel_rfl) (by kernel_rfl) (by kernel_rfl) (by kernel_rfl) (fun _ _ _ h => h) (Or.inl ⟨by rfl, ?hq0⟩) (S0) ?_
      case hq0 => (intro w hSw; (try dsimp only at hSw); go_simp) <;> with_reducible rfl
      simp only [Act.put, List.getElem_toArray, List.getElem_cons_zero, List.setIfInBounds_toArray, List.set_cons_zero, List.set_cons_succ]
      refine anyL_take (i := 1) (v := ?vq1) rfl (by kernel_rfl) (by kernel_rfl) (by kernel_rfl) (by kernel_rfl) (fun _ _ _ h => h) (Or.inl ⟨by rfl, ?hq1⟩) (S0) ?_
      case hq1 => (intro w hSw; (try dsimp only at hSw); go_simp) <;> with_reducible rfl
      simp only [Act.put, List.getElem_toArray, List.getElem_cons_zero, List.getElem_cons_succ, List.setIfInBounds_toArray, List.set_cons_zero, List.set_cons_succ]
      refine anyL_take (i := 2) (v := ?vq2) rfl (by kernel_rfl) (by kernel_rfl) (by kernel_rfl) (by kernel_rfl) (fun _ _ _ h => h) (Or.inl ⟨by rfl, ?hq2⟩) (S0) ?_
      case hq2 => (intro w hSw; (try dsimp only at hSw); go_simp) <;> with_reducible rfl
      simp only [Act.put, List.getElem_toArray, List.getElem_cons_zero, List.getElem_cons_succ, List.setIfInBounds_toArray, List.set_cons_zero, List.set_cons_succ]
      refine anyL_take (i := 3) (v := ?vq3) rfl (by kernel_rfl) (by kernel_rfl) (by kernel_rfl) (by kernel_rfl) (fun _ _ _ h => h) (Or.inl ⟨by rfl, ?hq3⟩) (S0) ?_
      case hq3 => (intro w hSw; (try dsimp only at hSw); go_simp) <;> with_reducible rfl
      simp only [Act.put, List.getElem_toArray, List.getElem_cons_zero, List.getElem_cons_succ, List.setIfInBounds_toArray, List.set_cons_zero, List.set_cons_succ]
      refine anyL_take (i := 4) (v := ?vq4) rfl (by kernel_rfl) (by kernel_rfl) (by kernel_rfl) (by kernel_rfl) (fun _ _ _ h => h) (Or.inl ⟨by rfl, ?hq4⟩) (S0) ?_
      case hq4 => (intro w hSw; (try dsimp only at hSw); go_simp) <;> with_reducible rfl
      simp only [Act.put, List.getElem_toArray, List.getElem_cons_zero, List.getElem_cons_succ, List.setIfInBounds_toArray, List.set_cons_zero, List.set_cons_succ]
      refine anyL_take (i := 5) (v := ?vq5) rfl (by kernel_rfl) (by kernel_rfl) (by kernel_rfl) (by kernel_rfl) (fun _ _ _ h => h) (Or.inl ⟨by rfl, ?hq5⟩) (S0) ?_
      case hq5 => (intro w hSw; (try dsimp only at hSw); go_simp) <;> with_reducible rfl
      simp only [Act.put, List.getElem_toArray, List.getElem_cons_zero, List.getElem_cons_succ, List.setIfInBounds_toArray, List.set_cons_zero, List.set_cons_succ]
      refine anyL_take (i := 6) (v := ?vq6) rfl (by kernel_rfl) (by kernel_rfl) (by kernel_rfl) (by kernel_rfl) (fun _ _ _ h => h) (Or.inl ⟨by rfl, ?hq6⟩) (S0) ?_
      case hq6 => (intro w hSw; (try dsimp only at hSw); go_simp) <;> with_reducible rfl
      simp only [Act.put, List.getElem_toArray, List.getElem_cons_zero, List.getElem_cons_succ, List.setIfInBounds_toArray, List.set_cons_zero, List.set_cons_succ]
      refine anyL_take (i := 7) (v := ?vq7) rfl (by kernel_rfl) (by kernel_rfl) (by kernel_rfl) (by kernel_rfl) (fun _ _ _ h => h) (Or.inl ⟨by rfl, ?hq7⟩) (S0) ?_
      case hq7 => (intro w hSw; (try dsimp only at hSw); go_simp) <;> with_reducible rfl
      simp only [Act.put, List.getElem_toArray, List.getElem_cons_zero, List.getElem_cons_succ, List.setIfInBounds_toArray, List.set_cons_zero, List.set_cons_succ]
      refine anyL_take (i := 8) (v := ?vq8) rfl (by kernel_rfl) (by kernel_rfl) (by kernel_rfl) (by kernel_rfl) (fun _ _ _ h => h) (Or.inl ⟨by rfl, ?hq8⟩) (S0) ?_
      case hq8 => (intro w hSw; (try dsimp only at hSw); go_simp) <;> with_reducible rfl
      simp only [Act.put, List.getElem_toArray, List.getElem_cons_zero, List.getElem_cons_succ, List.setIfInBounds_toArray, List.set_cons_zero, List.set_cons_succ]
      refine anyL_take (i := 9) (v := ?vq9) rfl (by kernel_rfl) (by kernel_rfl) (by kernel_rfl) (by kernel_rfl) (fun _ _ _ h => h) (Or.inl ⟨by rfl, ?hq9⟩) (S0) ?_
      case hq9 => (intro w hSw; (try dsimp only at hSw); go_simp) <;> with_reducible rfl
      simp only [Act.put, List.getElem_toArray, List.getElem_cons_zero, List.getElem_cons_succ, List.setIfInBounds_toArray, List.set_cons_zero, List.set_cons_succ]
      refine anyL_take (i := 10) (v := ?vq10) rfl (by kernel_rfl) (by kernel_rfl) (by kernel_rfl) (by kernel_rfl) (fun _ _ _ h => h) (Or.inl ⟨by rfl, ?hq10⟩) (S0) ?_
      case hq10 => (intro w hSw; (try dsimp only at hSw); go_simp) <;> with_reducible rfl
      simp only [Act.put, List.getElem_toArray, List.getElem_cons_zero, List.getElem_cons_succ, List.setIfInBounds_toArray, List.set_cons_zero, List.set_cons_succ]
      refine anyL_take (i := 11) (v := ?vq11) rfl (by kernel_rfl) (by kernel_rfl) (by kernel_rfl) (by kernel_rfl) (fun _ _ _ h => h) (Or.inl ⟨by rfl, ?hq11⟩) (S0) ?_
      case hq11 => (intro w hSw; (try dsimp only at hSw); go_simp) <;> with_reducible rfl
      simp only [Act.put, List.getElem_toArray, List.getElem_cons_zero, List.getElem_cons_succ, List.setIfInBounds_toArray, List.set_cons_zero, List.set_cons_succ]
      refine anyL_take (i := 12) (v := ?vq12) rfl (by kernel_rfl) (by kernel_rfl) (by kernel_rfl) (by kernel_rfl) (fun _ _ _ h => h) (Or.inl ⟨by rfl, ?hq12⟩) (S0) ?_
      case hq12 => (intro w hSw; (try dsimp only at hSw); go_simp) <;> with_reducible rfl
      simp only [Act.put, List.getElem_toArray, List.getElem_cons_zero, List.getElem_cons_succ, List.setIfInBounds_toArray, List.set_cons_zero, List.set_cons_succ]
      refine anyL_ready (rs := [13]) (by kernel_rfl) (by simp) ?_
      refine AllL.cons rfl (fun K hK => ?_) AllL.nil
      go_simp
      refine unhide hK _ _ (fun _ => S1) ?_
      clear hK K
      refine anyL_ready (rs := [14]) (by kernel_rfl) (by simp) ?_
      refine AllL.cons rfl (fun K hK => ?_) AllL.nil
      refine step_append_knownT rfl _ _ 48 48 rfl _ _ rfl rfl _ _ (unhide R1) ?_
      go_simp
      refine unhide hK _ _ (fun _ => S2) ?_
      clear hK K
      refine anyL_take (i := 15) (v := ?vq13) rfl (by kernel_rfl) (by kernel_rfl) (by kernel_rfl) (by kernel_rfl) (fun _ _ _ h => h) (Or.inl ⟨by rfl, ?hq13⟩) (S2) ?_
      case hq13 => (intro w hSw; (try dsimp only at hSw); go_simp) <;> with_reducible rfl
      simp only [Act.put, List.getElem_toArray, List.getElem_cons_zero, List.getElem_cons_succ, List.setIfInBounds_toArray, List.set_cons_zero, List.set_cons_succ]
      refine anyL_done (by kernel_rfl) ?_ _
      clear S0 S1 S2 R1 e1
      go_wp2_with fail
      go_roundw
      case rel => exact ⟨i + 1, by go_num, h1, hide (by rw [unhide HCT]; exact unhide HN)⟩
      case measure => simp [intOf]; omega
    · have t1 : decide ((i : Int) + 1 < ((cutS l).length : Int)) = false := decide_eq_false (by omega)
      have HE : Hid (TxI w1 wr (cutP l (cutS l)) u3) := hide (by have := unhide HT; rwa [List.take_of_length_le (by rw [cutP_len]; omega)] at this)
      clear HT
      go_wp2_with fail
      refine bodyPost_ret (results_tmp rfl _ _ _) rfl ⟨u3, rfl, ?_⟩
      obtain ⟨k, q1, q2⟩ := (unhide HE).row
      exact ⟨⟨k, q1, fun G e => Nat.le_trans (unhide HB1).size (q2 G e)⟩, (unhide HB1).trans ((unhide HE).b.mono (unhide HB1).size)⟩
end Go.Proofs.YtkdnanlgkedjgaaDoor
end
