/- Layer 10: contracts of seek's Where and Line, of a rope and of nil. -/
import Derived.Test.YtophdhpkinedgaaGreatDoorSs42

namespace Go.Proofs.YtophdhpkinedgaaGreatDoor
open Go.ChangeShapes Go.WideShapes Go.ChangeAt Go.RowKit
attribute [local go_sem] Oper.semAt_some

theorem resW10 {X : World} {a : Nat} {t : TypeId} {x0 x1 x2 x3 x4 x5 x6 : Int} {v : Value} (tmps : Array Value) (g4 : tmps[4]?.getD undef = .pointer (some ⟨a, 0, none⟩)) (g5 : tmps[5]?.getD undef = v)
    (h : Cls X a t #[.int .i64 x0, .int .i64 x1, .int .i64 x2, .int .i64 x3, .int .i64 x4, .int .i64 x5, .int .i64 x6]) : (results Tryz.f18 tmps).run Tryz.prog X = .ok (.tuple #[.agg #[.int .i64 x0, .int .i64 x1, .int .i64 x2, .int .i64 x3, .int .i64 x4, .int .i64 x5, .int .i64 x6], v]) X := by
  have p0 : X.cell? ⟨a, 0, none⟩ = some (.int .i64 x0) := (h.cell 0).trans rfl
  have p1 : X.cell? ⟨a, 1, none⟩ = some (.int .i64 x1) := (h.cell 1).trans rfl
  have p2 : X.cell? ⟨a, 2, none⟩ = some (.int .i64 x2) := (h.cell 2).trans rfl
  have p3 : X.cell? ⟨a, 3, none⟩ = some (.int .i64 x3) := (h.cell 3).trans rfl
  have p4 : X.cell? ⟨a, 4, none⟩ = some (.int .i64 x4) := (h.cell 4).trans rfl
  have p5 : X.cell? ⟨a, 5, none⟩ = some (.int .i64 x5) := (h.cell 5).trans rfl
  have p6 : X.cell? ⟨a, 6, none⟩ = some (.int .i64 x6) := (h.cell 6).trans rfl
  simp [results, Tryz.results18, go_sem, g4, g5, p0, p1, p2, p3, p4, p5, p6]
theorem szV_eq (l : List Int) : szV (szL l) = .agg #[.int .i64 (szL l).b, .int .i64 (szL l).r, .int .i64 (szL l).u, .int .i64 (szL l).e] := rfl
set_option maxRecDepth 100000 in
set_option maxHeartbeats 4000000 in
/-- Where, by what its parts answer: e the edge, k the ends ahead of it, s the beginning of its line i -/
theorem Where10_of (g e k i s s1 : Nat) (p hr hu tr tu cb cr cu : Int) (w : World)
    (HF : Hid (∀ X, Below w.heap.size w X → Calls Tryz.prog 27 #[.pointer (some ⟨g, 0, none⟩), .int .i64 p] X fun y w' => y = .returned (.tuple #[.int .i64 (e : Int), .int .i64 0]) ∧ Below X.heap.size X w'))
    (HA : Hid (∀ X, Below w.heap.size w X → Calls Tryz.prog 50 #[.func (.func 51) #[.pointer (some ⟨g, 0, none⟩)] #[], .int .i64 (e : Int)] X fun y w' => y = .returned (.agg #[.int .i64 (e : Int), .int .i64 hr, .int .i64 hu, .int .i64 (k : Int)]) ∧ Below X.heap.size X w'))
    (HS : Hid (∀ X, Below w.heap.size w X → Calls Tryz.prog 50 #[.func (.func 51) #[.pointer (some ⟨g, 0, none⟩)] #[], .int .i64 (s : Int)] X fun y w' => (∃ q : Int, y = .returned (.agg #[.int .i64 (s : Int), .int .i64 tr, .int .i64 tu, .int .i64 q])) ∧ Below X.heap.size X w'))
    (HB : Hid (∀ X, Below w.heap.size w X → Calls Tryz.prog 55 #[.pointer (some ⟨g, 0, none⟩), .int .i64 (k : Int)] X fun y w' => y = .returned (.int .i64 (s1 : Int)) ∧ Below X.heap.size X w'))
    (HI : Hid (∀ X, Below w.heap.size w X → Calls Tryz.prog 55 #[.pointer (some ⟨g, 0, none⟩), .int .i64 (i : Int)] X fun y w' => y = .returned (.int .i64 (s : Int)) ∧ Below X.heap.size X w'))
    (hc : (k = i ∧ s1 = s ∧ s ≤ e) ∨ (k = i + 1 ∧ e < s1 ∧ i ≤ 268435457)) (wb : wrap64 ((e : Int) - (s : Int)) = cb) (wr : wrap64 (hr - tr) = cr) (wu : wrap64 (hu - tu) = cu) :
    Calls Tryz.prog 18 #[.pointer (some ⟨g, 0, none⟩), .int .i64 p] w fun y w' => y = .returned (.tuple #[.agg #[.int .i64 (e : Int), .int .i64 hr, .int .i64 hu, .int .i64 (i : Int), .int .i64 cb, .int .i64 cr, .int .i64 cu], .int .i64 0]) ∧ Below w.heap.size w w' := by
  have kS : Cls (w.alloc (.cells #[.int .i64 0, .int .i64 0, .int .i64 0, .int .i64 0, .int .i64 0, .int .i64 0, .int .i64 0] 44)) w.heap.size 44 wh0 := Cls.new w 44 _
  have b0 := (Below.refl w.heap.size w).alloc (Nat.le_refl _) (.cells #[.int .i64 0, .int .i64 0, .int .i64 0, .int .i64 0, .int .i64 0, .int .i64 0, .int .i64 0] 44)
  have HC := hide hc
  clear hc
  go_enter Tryz.func18, Tryz.ntmps18
  go_upto_region 1 with fail
  generalize w.alloc (.cells #[.int .i64 0, .int .i64 0, .int .i64 0, .int .i64 0, .int .i64 0, .int .i64 0, .int .i64 0] 44) = w0 at *
  go_wp2_with fail
  refine (unhide HF w0 b0).mono ?_
  rintro y w1 ⟨rfl, x1⟩
  dsimp only
  have X1 := b0.trans (x1.mono b0.size)
  have k1 := kS.below x1 kS.lt
  clear x1 b0 kS
  go_wp2_with fail
  refine (unhide HA w1 X1).mono ?_
  rintro y w2 ⟨rfl, x2⟩
  dsimp only
  have X2 := X1.trans (x2.mono X1.size)
  have k2 := k1.below x2 k1.lt
  clear x2 X1 k1
  go_upto_region 5 with fail
  have x3 := (Below.refl w2.heap.size w2).alloc (Nat.le_refl _) (.cells #[.int .i64 (e : Int), .int .i64 hr, .int .i64 hu, .int .i64 (k : Int)] 59)
  have g3 := push_get w2 (.cells #[.int .i64 (e : Int), .int .i64 hr, .int .i64 hu, .int .i64 (k : Int)] 59)
  generalize w2.alloc (.cells #[.int .i64 (e : Int), .int .i64 hr, .int .i64 hu, .int .i64 (k : Int)] 59) = w3 at *
  have X3 := X2.trans (x3.mono X2.size)
  have k3 := k2.below x3 k2.lt
  generalize w2.heap.size = gH at *
  clear x3 X2 k2
  obtain ⟨c0, c1, c2, c3, _⟩ := cells4 g3
  have G3 := hide g3
  clear g3
  go_wp2_with fail
  refine (unhide HB w3 X3).mono ?_
  rintro y w4 ⟨rfl, x4⟩
  dsimp only
  have X4 := X3.trans (x4.mono X3.size)
  have k4 := k3.below x4 k3.lt
  have g4 := bk9_on (unhide G3) x4
  clear x4 X3 k3 G3 c0 c1 c2 c3
  rcases unhide HC with ⟨rfl, rfl, hle⟩ | ⟨rfl, hlt, hik⟩
  · have dd : decide ((s1 : Int) > (e : Int)) = false := decide_eq_false (by omega)
    have dd2 : decide ((e : Int) < (s1 : Int)) = false := decide_eq_false (by omega)
    have dd3 : decide (e < s1) = false := decide_eq_false (by omega)
    clear hle HC
    go_wp2_with fail
    refine (unhide HS w4 X4).mono ?_
    rintro y w5 ⟨⟨q, rfl⟩, x5⟩
    dsimp only
    have X5 := X4.trans (x5.mono X4.size)
    have k5 := k4.below x5 k4.lt
    have g5 := bk9_on g4 x5
    clear x5 X4 k4 g4
    go_upto_region 11 with fail
    have x6 := (Below.refl w5.heap.size w5).alloc (Nat.le_refl _) (.cells #[.int .i64 (s1 : Int), .int .i64 tr, .int .i64 tu, .int .i64 q] 59)
    have g6 := push_get w5 (.cells #[.int .i64 (s1 : Int), .int .i64 tr, .int .i64 tu, .int .i64 q] 59)
    generalize w5.alloc (.cells #[.int .i64 (s1 : Int), .int .i64 tr, .int .i64 tu, .int .i64 q] 59) = w6 at *
    have X6 := X5.trans (x6.mono X5.size)
    have k6 := k5.below x6 k5.lt
    have h6 := bk9_on g5 x6
    generalize w5.heap.size = gT at *
    obtain ⟨c0, c1, c2, c3, _⟩ := cells4 h6
    obtain ⟨d0, d1, d2, d3, _⟩ := cells4 g6
    have cz := cells7 k6
    have z0 := cz 0 (by omega)
    have z1 := cz 1 (by omega)
    have z2 := cz 2 (by omega)
    have z3 := cz 3 (by omega)
    have z4' := cz 4 (by omega)
    have z5 := cz 5 (by omega)
    have z6 := cz 6 (by omega)
    have f0 := k6.frozen 0
    have f1 := k6.frozen 1
    have f2 := k6.frozen 2
    have f3 := k6.frozen 3
    have f4 := k6.frozen 4
    have f5 := k6.frozen 5
    have f6 := k6.frozen 6
    have K6 := hide k6
    have XX := hide X6
    clear x6 X5 k5 g5 h6 g6 cz k6 X6
    go_wp2_with fail
    obtain ⟨s1', s2'⟩ := sets7 _ 44 (.int .i64 (e : Int)) (.int .i64 hr) (.int .i64 hu) (.int .i64 (k : Int)) (.int .i64 cb) (.int .i64 cr) (.int .i64 cu) (unhide K6)
    refine bodyPost_ret (resW10 _ rfl rfl s1') rfl ?_
    exact ⟨rfl, (unhide XX).trans s2'⟩
  · have dd : decide ((s1 : Int) > (e : Int)) = true := decide_eq_true (by omega)
    have dd2 : decide ((e : Int) < (s1 : Int)) = true := decide_eq_true (by omega)
    have dd3 : decide (e < s1) = true := decide_eq_true (by omega)
    have wk : wrap64 (i : Int) = (i : Int) := wrap_in _ (by omega) (by omega)
    push_cast at g4
    push_cast
    clear hlt hik HC
    go_wp2_with fail
    refine (unhide HI w4 X4).mono ?_
    rintro y w4' ⟨rfl, x4⟩
    dsimp only
    have X4' := X4.trans (x4.mono X4.size)
    have k4' := k4.below x4 k4.lt
    have g4' := bk9_on g4 x4
    clear x4 X4 k4 g4
    go_wp2_with fail
    refine (unhide HS w4' X4').mono ?_
    rintro y w5 ⟨⟨q, rfl⟩, x5⟩
    dsimp only
    have X5 := X4'.trans (x5.mono X4'.size)
    have k5 := k4'.below x5 k4'.lt
    have g5 := bk9_on g4' x5
    clear x5 X4' k4' g4'
    go_upto_region 11 with fail
    have x6 := (Below.refl w5.heap.size w5).alloc (Nat.le_refl _) (.cells #[.int .i64 (s : Int), .int .i64 tr, .int .i64 tu, .int .i64 q] 59)
    have g6 := push_get w5 (.cells #[.int .i64 (s : Int), .int .i64 tr, .int .i64 tu, .int .i64 q] 59)
    generalize w5.alloc (.cells #[.int .i64 (s : Int), .int .i64 tr, .int .i64 tu, .int .i64 q] 59) = w6 at *
    have X6 := X5.trans (x6.mono X5.size)
    have k6 := k5.below x6 k5.lt
    have h6 := bk9_on g5 x6
    generalize w5.heap.size = gT at *
    obtain ⟨c0, c1, c2, c3, _⟩ := cells4 h6
    obtain ⟨d0, d1, d2, d3, _⟩ := cells4 g6
    have cz := cells7 k6
    have z0 := cz 0 (by omega)
    have z1 := cz 1 (by omega)
    have z2 := cz 2 (by omega)
    have z3 := cz 3 (by omega)
    have z4' := cz 4 (by omega)
    have z5 := cz 5 (by omega)
    have z6 := cz 6 (by omega)
    have f0 := k6.frozen 0
    have f1 := k6.frozen 1
    have f2 := k6.frozen 2
    have f3 := k6.frozen 3
    have f4 := k6.frozen 4
    have f5 := k6.frozen 5
    have f6 := k6.frozen 6
    have K6 := hide k6
    have XX := hide X6
    clear x6 X5 k5 g5 h6 g6 cz k6 X6
    go_wp2_with fail
    obtain ⟨s1', s2'⟩ := sets7 _ 44 (.int .i64 (e : Int)) (.int .i64 hr) (.int .i64 hu) (.int .i64 (i : Int)) (.int .i64 cb) (.int .i64 cr) (.int .i64 cu) (unhide K6)
    refine bodyPost_ret (resW10 _ rfl rfl s1') rfl ?_
    exact ⟨rfl, (unhide XX).trans s2'⟩

end Go.Proofs.YtophdhpkinedgaaGreatDoor
