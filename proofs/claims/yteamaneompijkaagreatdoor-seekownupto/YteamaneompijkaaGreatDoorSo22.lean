/- Layer 5: measures as values; unitsOf, head, tail. -/
import Derived.Test.YteamaneompijkaaGreatDoorSo05
import Derived.Test.YteamaneompijkaaGreatDoorSo01
namespace Go.Proofs.YteamaneompijkaaGreatDoor
open Go.ChangeShapes Go.WideShapes Go.ChangeAt Go.RowKit
set_option maxRecDepth 100000
set_option maxHeartbeats 8000000
structure Sz where
  b : Int
  r : Int
  u : Int
  e : Int
deriving DecidableEq
def szV (z : Sz) : Value := .agg #[.int .i64 z.b, .int .i64 z.r, .int .i64 z.u, .int .i64 z.e]
structure We where
  z : Sz
  h : List Int
  t : List Int
deriving DecidableEq
def weV (w : We) : Value := .agg #[.int .i64 w.z.b, .int .i64 w.z.r, .int .i64 w.z.u, .int .i64 w.z.e, .string (strOfNums w.h), .string (strOfNums w.t)]
def tail3 (l : List Int) : List Int := l.drop (l.length - 3)
def uni1 (r : Int) : Int := if 65535 < r then 2 else 1
theorem unitsOf_at (r : Int) (w : World) : Calls Tryz.prog 152 #[.int .i32 r] w fun e w' => e = .returned (.int .i64 (uni1 r)) ∧ w' = w := by
  go_enter Tryz.func152, Tryz.ntmps152
  unfold uni1
  by_cases h : 65535 < r
  · have h1 : decide (r > 65535) = true := decide_eq_true h
    have h2 : decide (65535 < r) = true := decide_eq_true h
    rw [if_pos h]
    go_wp2
    go_ret
    exact ⟨rfl, rfl⟩
  · have h1 : decide (r > 65535) = false := decide_eq_false h
    have h2 : decide (65535 < r) = false := decide_eq_false h
    rw [if_neg h]
    go_wp2
    go_ret
    exact ⟨rfl, rfl⟩
theorem IsB.takeW {w : World} {a0 : Option Addr} {cap : Nat} {l : List Int} {n : Nat} (h : IsB w a0 cap l) (_hn : n ≤ l.length) : IsB w a0 cap (l.take n) := by
  obtain ⟨h1, h2, h3, h4⟩ := h
  refine ⟨by simp; omega, by simp; omega, ?_, fun x hx => h4 x (List.mem_of_mem_take hx)⟩
  rcases h3 with h3 | ⟨g', off', rfl, hL⟩
  · exact Or.inl (by rw [h3]; simp)
  · exact Or.inr ⟨g', off', rfl, hL.take n⟩
theorem IsB.dropW {w : World} {a : Option Addr} {cap : Nat} {l : List Int} {n : Nat} (h : IsB w a cap l) : IsB w (if cap = n then a else a.map (·.add n)) (cap - n) (l.drop n) := by
  obtain ⟨h1, h2, h3, h4⟩ := h
  refine ⟨by simp; omega, by simp; omega, ?_, fun x hx => h4 x (List.mem_of_mem_drop hx)⟩
  rcases Nat.lt_or_ge n l.length with hlt | hge
  · rcases h3 with h3 | ⟨g', off', rfl, hL⟩
    · rw [h3] at hlt; simp at hlt
    · rw [if_neg (by omega)]
      exact Or.inr ⟨g', off' + n, by simp [Addr.add_lit], hL.drop n⟩
  · exact Or.inl (by simp; omega)
theorem head_at (a0 : Option Addr) (cap : Nat) (l : List Int) (w : World) (hB : IsB w a0 cap l) :
    Calls Tryz.prog 140 #[.slice a0 l.length cap] w fun e w' => e = .returned (.string (strOfNums (l.take 3))) ∧ ∃ n, w' = w.drewN n := by
  have hc := hB.1
  have hm := hB.2.1
  rcases Nat.lt_or_ge l.length 4 with h3 | h3
  · have ht : l.take 3 = l := List.take_of_length_le (by omega)
    rw [ht]
    have k0 := str_bs w a0 cap l hB.2.2.1
    have hmin : (l.length : Int) ≤ 3 := by omega
    have hle : (l.length : Int) ≤ (cap : Int) := by omega
    go_enter Tryz.func140, Tryz.ntmps140
    go_wp2
    go_ret
    exact ⟨rfl, 0, rfl⟩
  · have htl : (l.take 3).length = 3 := by simp; omega
    have k0 : (convert 30 9 (.slice a0 3 cap)).run Tryz.prog w = .ok (.string (strOfNums (l.take 3))) w := by
      have := str_bs w a0 cap (l.take 3) (hB.takeW (n := 3) (by omega)).2.2.1
      rwa [htl] at this
    have hmin : ¬ ((l.length : Int) ≤ 3) := by omega
    have hle : (3 : Int) ≤ (cap : Int) := by omega
    generalize l.take 3 = l3 at *
    clear htl hB h3
    go_enter Tryz.func140, Tryz.ntmps140
    go_wp2
    go_ret
    exact ⟨rfl, 0, rfl⟩
theorem tail_at (a0 : Option Addr) (cap : Nat) (l : List Int) (w : World) (hB : IsB w a0 cap l) :
    Calls Tryz.prog 141 #[.slice a0 l.length cap] w fun e w' => e = .returned (.string (strOfNums (tail3 l))) ∧ ∃ n, w' = w.drewN n := by
  have hc := hB.1
  have hm := hB.2.1
  rcases Nat.lt_or_ge l.length 4 with h3 | h3
  · have ht : tail3 l = l := by unfold tail3; rw [show l.length - 3 = 0 by omega]; rfl
    rw [ht]
    have k0 := str_bs w a0 cap l hB.2.2.1
    have hmin : (l.length : Int) ≤ 3 := by omega
    have hle : (l.length : Int) ≤ (cap : Int) := by omega
    have hmap : a0.map (fun x : Addr => x.add 0) = a0 := by cases a0 <;> simp [Addr.add]
    go_enter Tryz.func141, Tryz.ntmps141
    go_wp2
    go_ret
    exact ⟨rfl, 0, rfl⟩
  · obtain ⟨q, hq⟩ : ∃ q, q = l.length - 3 := ⟨_, rfl⟩
    have htl : (l.drop q).length = 3 := by simp; omega
    have hd := hB.dropW (n := q)
    rw [if_neg (by omega)] at hd
    have k0 : (convert 30 9 (.slice (a0.map (·.add q)) 3 (cap - q))).run Tryz.prog w = .ok (.string (strOfNums (l.drop q))) w := by
      have := str_bs w (a0.map (·.add q)) (cap - q) (l.drop q) hd.2.2.1
      rwa [htl] at this
    have ht : tail3 l = l.drop q := by unfold tail3; rw [hq]
    rw [ht]
    have hmin : ¬ ((l.length : Int) ≤ 3) := by omega
    have hlq : (l.length : Int) - 3 = (q : Int) := by omega
    have hql : l.length - q = 3 := by omega
    have hle : (q : Int) ≤ (l.length : Int) := by omega
    have hcq : ¬ cap = q := by omega
    have hlc : (l.length : Int) ≤ (cap : Int) := by omega
    generalize l.drop q = l3 at *
    clear hq htl hd ht hB h3
    go_enter Tryz.func141, Tryz.ntmps141
    go_wp2
    go_ret
    exact ⟨rfl, 0, rfl⟩
end Go.Proofs.YteamaneompijkaaGreatDoor
