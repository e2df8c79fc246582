/- Layer 10: the contract of seek's Step; Joined. -/
import Derived.Test.YtophdhpkinedgaaGreatDoorSs46
import Derived.WalkMore

namespace Go.Proofs.YtophdhpkinedgaaGreatDoor
open Go.ChangeShapes Go.WideShapes Go.ChangeAt Go.RowKit
attribute [local go_sem] Oper.semAt_some

set_option maxRecDepth 100000 in
set_option maxHeartbeats 4000000 in
theorem stepAt10_of (g e hi N : Nat) (sr : Int) (sn : Nat) (sb : Bool) (L : List Int) (w : World)
    (HBy : Hid (∀ X, Below w.heap.size w X → Calls Tryz.prog 30 #[.pointer (some ⟨g, 0, none⟩), .int .i64 (e : Int), .int .i64 (hi : Int)] X fun y w' => ∃ v, y = .returned (.tuple #[v, .int .i64 0]) ∧ Own w' X.heap.size v L ∧ Below X.heap.size X w'))
    (HYB : Hid (∀ x ∈ L, 0 ≤ x ∧ x ≤ 255)) (HLL : Hid (L.length ≤ 268435456)) (HAt : Hid (atV L 0 = .tuple #[.agg #[.int .i32 sr, .int .i64 (sn : Int), .bool sb], .int .i64 0])) (hW : Wt w)
    (w1 : wrap64 ((e : Int) + 4) = (e : Int) + 4) (w2 : min (N : Int) ((e : Int) + 4) = (hi : Int)) :
    Calls Tryz.prog 65 #[.func (.func 30) #[.pointer (some ⟨g, 0, none⟩)] #[], .int .i64 (N : Int), .int .i64 (e : Int)] w fun y w' => y = .returned (.agg #[.int .i32 sr, .int .i64 (sn : Int), .bool sb]) ∧ Below w.heap.size w w' := by
  have b0 := (Below.refl w.heap.size w).alloc (Nat.le_refl _) (.cells #[.int .i32 0, .int .i64 0, .bool false] 68)
  have g0 := push_get w (.cells #[.int .i32 0, .int .i64 0, .bool false] 68)
  have HT := hide fun (X : World) (hx : Below w.heap.size w X) => (hW.below hx).1
  clear hW
  go_enter Tryz.func65, Tryz.ntmps65
  go_upto_region 1 with fail
  generalize w.alloc (.cells #[.int .i32 0, .int .i64 0, .bool false] 68) = w0 at *
  go_wp2_with fail
  refine (unhide HBy w0 b0).mono ?_
  rintro y v1 ⟨v, rfl, hv, x1⟩
  dsimp only
  have X1 := b0.trans (x1.mono b0.size)
  have g1 := bk9_on g0 x1
  obtain ⟨a', c', rfl, hN'⟩ := own_isNS hv (unhide HYB) (by have := unhide HLL; omega)
  have HI := hide hN'.1
  clear hv hN' HBy x1 b0 g0
  go_wp2_with fail
  refine (At_at a' c' 0 _ v1 (unhide HI) (unhide HT v1 X1)).mono ?_
  rintro y v2 ⟨rfl, x2⟩
  dsimp only
  rw [unhide HAt]
  have X2 := X1.trans (x2.mono X1.size)
  have g2 := bk9_on g1 x2
  clear x2 X1 g1 HI
  go_upto_region 3 with fail
  have x3 := (Below.refl v2.heap.size v2).alloc (Nat.le_refl _) (.cells #[.int .i32 sr, .int .i64 (sn : Int), .bool sb] 68)
  have g3 := push_get v2 (.cells #[.int .i32 sr, .int .i64 (sn : Int), .bool sb] 68)
  generalize v2.alloc (.cells #[.int .i32 sr, .int .i64 (sn : Int), .bool sb] 68) = w3 at *
  have X3 := X2.trans (x3.mono X2.size)
  have h3 := bk9_on g2 x3
  generalize v2.heap.size = gS at *
  obtain ⟨q0, q1, q2, _⟩ := cells3S g3
  obtain ⟨d0, d1, d2, f⟩ := cells3S h3
  have f0 := f 0
  have f1 := f 1
  have f2 := f 2
  have HF := hide (box3S h3 (.int .i32 sr) (.int .i64 (sn : Int)) (.bool sb))
  have HD := hide (below3S X3 (Nat.le_refl _) (.int .i32 sr) (.int .i64 (sn : Int)) (.bool sb))
  clear f x3 X2 X3 g2 g3 h3
  go_wp2_with fail
  obtain ⟨d0, d1, d2, _⟩ := cells3S (unhide HF)
  refine bodyPost_ret (v := .agg #[.int .i32 sr, .int .i64 (sn : Int), .bool sb]) (by simp [results, Tryz.results65, go_sem, d0, d1, d2]) rfl ⟨rfl, unhide HD⟩
theorem stp_eq (l : List Int) : stp l = .agg #[.int .i32 (first l).1, .int .i64 (wid l : Int), .bool (whl l)] := rfl
theorem inside0 (l : List Int) : inside l 0 = false := by unfold inside; simp
theorem stepAt10_at (g : Nat) (o : Option Nd) (e : Nat) (w : World) (h : IsRo w g o) (he : e < (txtO o).length) (hm : (txtO o).length ≤ 268435456) (hW : Wt w) :
    Calls Tryz.prog 65 #[.func (.func 30) #[.pointer (some ⟨g, 0, none⟩)] #[], .int .i64 ((txtO o).length : Int), .int .i64 (e : Int)] w fun y w' => y = .returned (stp ((txtO o).drop e)) ∧ Below w.heap.size w w' := by
  have hb := bytes_of h
  have hlen : (((txtO o).drop e).take (min (txtO o).length (e + 4) - e)).length = min (txtO o).length (e + 4) - e := by rw [List.length_take, List.length_drop]; omega
  have hst := stp_few (L := (txtO o).drop e) (n := min (txtO o).length (e + 4) - e) (by rw [List.length_drop]; omega)
  have hAt : atV (((txtO o).drop e).take (min (txtO o).length (e + 4) - e)) 0 = .tuple #[.agg #[.int .i32 (first ((txtO o).drop e)).1, .int .i64 (wid ((txtO o).drop e) : Int), .bool (whl ((txtO o).drop e))], .int .i64 0] := by
    unfold atV
    rw [if_neg (by rw [hlen]; omega), show (0 : Int).toNat = 0 from rfl, inside0, List.drop_zero, hst, stp_eq]
    rfl
  rw [stp_eq]
  exact stepAt10_of g e (min (txtO o).length (e + 4)) (txtO o).length _ _ _ _ w (hide fun X hx => BytesR9_at g o e (min (txtO o).length (e + 4)) X (h.on hx) (by omega) (by omega) hm) (hide fun x hx => hb x (List.mem_of_mem_drop (List.mem_of_mem_take hx))) (hide (by omega)) (hide hAt) hW (wrap_in _ (by omega) (by omega)) (by omega)
/-- what Step answers -/
def stV10 (T : List Int) (p : Int) : Value := if p < 0 ∨ (T.length : Int) ≤ p then .tuple #[.int .i64 0, .agg #[.int .i32 0, .int .i64 0, .bool false], .int .i64 2] else .tuple #[.int .i64 (flr T p.toNat : Int), stp (T.drop (flr T p.toNat)), .int .i64 0]
set_option maxRecDepth 100000 in
set_option maxHeartbeats 4000000 in
theorem Step10_of (g N : Nat) (p : Nat) (f : Nat) (sr : Int) (sn : Nat) (sb : Bool) (w : World)
    (HLen : Hid (∀ X, Below w.heap.size w X → Calls Tryz.prog 31 #[.pointer (some ⟨g, 0, none⟩)] X fun y w' => y = .returned (.int .i64 (N : Int)) ∧ Below X.heap.size X w'))
    (HFl : Hid (∀ X, Below w.heap.size w X → Calls Tryz.prog 64 #[.func (.func 30) #[.pointer (some ⟨g, 0, none⟩)] #[], .int .i64 (N : Int), .int .i64 (p : Int)] X fun y w' => y = .returned (.int .i64 (f : Int)) ∧ Below X.heap.size X w'))
    (HSt : Hid (∀ X, Below w.heap.size w X → Calls Tryz.prog 65 #[.func (.func 30) #[.pointer (some ⟨g, 0, none⟩)] #[], .int .i64 (N : Int), .int .i64 (f : Int)] X fun y w' => y = .returned (.agg #[.int .i32 sr, .int .i64 (sn : Int), .bool sb]) ∧ Below X.heap.size X w'))
    (hp : p < N) :
    Calls Tryz.prog 28 #[.pointer (some ⟨g, 0, none⟩), .int .i64 (p : Int)] w fun y w' => y = .returned (.tuple #[.int .i64 (f : Int), .agg #[.int .i32 sr, .int .i64 (sn : Int), .bool sb], .int .i64 0]) ∧ Below w.heap.size w w' := by
  have b0 := (Below.refl w.heap.size w).alloc (Nat.le_refl _) (.cells #[.int .i32 0, .int .i64 0, .bool false] 68)
  have g0 := push_get w (.cells #[.int .i32 0, .int .i64 0, .bool false] 68)
  have d0 : decide ((p : Int) < 0) = false := decide_eq_false (by omega)
  have d1 : decide ((N : Int) ≤ (p : Int)) = false := decide_eq_false (by omega)
  have d2 : decide ((p : Int) ≥ (N : Int)) = false := decide_eq_false (by omega)
  have d3 : decide (N ≤ p) = false := decide_eq_false (by omega)
  clear hp
  go_enter Tryz.func28, Tryz.ntmps28
  go_upto_region 1 with fail
  generalize w.alloc (.cells #[.int .i32 0, .int .i64 0, .bool false] 68) = w0 at *
  go_wp2_with fail
  refine (unhide HLen w0 b0).mono ?_
  rintro y v1 ⟨rfl, x1⟩
  dsimp only
  have X1 := b0.trans (x1.mono b0.size)
  have g1 := bk9_on g0 x1
  clear x1 b0 g0
  go_wp2_with fail
  refine (unhide HLen v1 X1).mono ?_
  rintro y v2 ⟨rfl, x2⟩
  dsimp only
  have X2 := X1.trans (x2.mono X1.size)
  have g2 := bk9_on g1 x2
  clear x2 X1 g1
  go_wp2_with fail
  refine (unhide HFl v2 X2).mono ?_
  rintro y v3 ⟨rfl, x3⟩
  dsimp only
  have X3 := X2.trans (x3.mono X2.size)
  have g3 := bk9_on g2 x3
  clear x3 X2 g2
  go_wp2_with fail
  refine (unhide HLen v3 X3).mono ?_
  rintro y v4 ⟨rfl, x4⟩
  dsimp only
  have X4 := X3.trans (x4.mono X3.size)
  have g4 := bk9_on g3 x4
  clear x4 X3 g3
  go_wp2_with fail
  refine (unhide HSt v4 X4).mono ?_
  rintro y v5 ⟨rfl, x5⟩
  dsimp only
  have X5 := X4.trans (x5.mono X4.size)
  have g5 := bk9_on g4 x5
  obtain ⟨c0, c1, c2, ff⟩ := cells3S g5
  have f0 := ff 0
  have f1 := ff 1
  have f2 := ff 2
  have HF := hide (box3S g5 (.int .i32 sr) (.int .i64 (sn : Int)) (.bool sb))
  have HD := hide (below3S X5 (Nat.le_refl _) (.int .i32 sr) (.int .i64 (sn : Int)) (.bool sb))
  clear ff x5 X4 g4 X5 g5 HLen HFl HSt
  go_wp2_with fail
  obtain ⟨c0, c1, c2, _⟩ := cells3S (unhide HF)
  refine bodyPost_ret (v := .tuple #[.int .i64 (f : Int), .agg #[.int .i32 sr, .int .i64 (sn : Int), .bool sb], .int .i64 0]) (by simp [results, Tryz.results28, go_sem, c0, c1, c2]) rfl ⟨rfl, unhide HD⟩
set_option maxRecDepth 100000 in
set_option maxHeartbeats 4000000 in
theorem StepE10_of (g N : Nat) (p : Int) (w : World)
    (HLen : Hid (∀ X, Below w.heap.size w X → Calls Tryz.prog 31 #[.pointer (some ⟨g, 0, none⟩)] X fun y w' => y = .returned (.int .i64 (N : Int)) ∧ Below X.heap.size X w')) (hp : p < 0 ∨ (N : Int) ≤ p) :
    Calls Tryz.prog 28 #[.pointer (some ⟨g, 0, none⟩), .int .i64 p] w fun y w' => y = .returned (.tuple #[.int .i64 0, .agg #[.int .i32 0, .int .i64 0, .bool false], .int .i64 2]) ∧ Below w.heap.size w w' := by
  have b0 := (Below.refl w.heap.size w).alloc (Nat.le_refl _) (.cells #[.int .i32 0, .int .i64 0, .bool false] 68)
  have g0 := push_get w (.cells #[.int .i32 0, .int .i64 0, .bool false] 68)
  by_cases h0 : p < 0
  · have d0 : decide (p < 0) = true := decide_eq_true h0
    go_enter Tryz.func28, Tryz.ntmps28
    go_upto_region 1 with fail
    generalize w.alloc (.cells #[.int .i32 0, .int .i64 0, .bool false] 68) = w0 at *
    obtain ⟨c0, c1, c2, ff⟩ := cells3S g0
    have f0 := ff 0
    have f1 := ff 1
    have f2 := ff 2
    have HF := hide (box3S g0 (.int .i32 0) (.int .i64 0) (.bool false))
    have HD := hide (below3S b0 (Nat.le_refl _) (.int .i32 0) (.int .i64 0) (.bool false))
    clear ff g0 b0 hp
    go_wp2_with fail
    obtain ⟨c0, c1, c2, _⟩ := cells3S (unhide HF)
    refine bodyPost_ret (v := .tuple #[.int .i64 0, .agg #[.int .i32 0, .int .i64 0, .bool false], .int .i64 2]) (by simp [results, Tryz.results28, go_sem, c0, c1, c2]) rfl ⟨rfl, unhide HD⟩
  · have h1 : (N : Int) ≤ p := by omega
    have d0 : decide (p < 0) = false := decide_eq_false h0
    have d1 : decide ((N : Int) ≤ p) = true := decide_eq_true h1
    have d2 : decide (p ≥ (N : Int)) = true := decide_eq_true h1
    go_enter Tryz.func28, Tryz.ntmps28
    go_upto_region 1 with fail
    generalize w.alloc (.cells #[.int .i32 0, .int .i64 0, .bool false] 68) = w0 at *
    go_wp2_with fail
    refine (unhide HLen w0 b0).mono ?_
    rintro y v1 ⟨rfl, x1⟩
    dsimp only
    have X1 := b0.trans (x1.mono b0.size)
    have g1 := bk9_on g0 x1
    obtain ⟨c0, c1, c2, ff⟩ := cells3S g1
    have f0 := ff 0
    have f1 := ff 1
    have f2 := ff 2
    have HF := hide (box3S g1 (.int .i32 0) (.int .i64 0) (.bool false))
    have HD := hide (below3S X1 (Nat.le_refl _) (.int .i32 0) (.int .i64 0) (.bool false))
    clear ff g0 b0 hp x1 X1 g1
    go_wp2_with fail
    obtain ⟨c0, c1, c2, _⟩ := cells3S (unhide HF)
    refine bodyPost_ret (v := .tuple #[.int .i64 0, .agg #[.int .i32 0, .int .i64 0, .bool false], .int .i64 2]) (by simp [results, Tryz.results28, go_sem, c0, c1, c2]) rfl ⟨rfl, unhide HD⟩
theorem Step10_at (g : Nat) (o : Option Nd) (p : Int) (w : World) (h : IsRo w g o) (hm : (txtO o).length ≤ 268435456) (hW : Wt w) :
    Calls Tryz.prog 28 #[.pointer (some ⟨g, 0, none⟩), .int .i64 p] w fun y w' => y = .returned (stV10 (txtO o) p) ∧ Below w.heap.size w w' := by
  have hb := bytes_of h
  have hLen := fun (X : World) (hx : Below w.heap.size w X) => Len9_at g o X (h.on hx)
  by_cases hp : p < 0 ∨ ((txtO o).length : Int) ≤ p
  · unfold stV10
    rw [if_pos hp]
    exact StepE10_of g _ p w (hide hLen) hp
  · obtain ⟨q, rfl⟩ : ∃ q : Nat, p = (q : Int) := ⟨p.toNat, by omega⟩
    have hf := flr_le (txtO o) q
    unfold stV10
    rw [if_neg hp, Int.toNat_natCast, stp_eq]
    refine Step10_of g (txtO o).length q (flr (txtO o) q) _ _ _ w (hide hLen) (hide fun X hx => floor10_at g o q X (h.on hx) hb (by omega) hm (hW.below hx)) (hide fun X hx => ?_) (by omega)
    have := stepAt10_at g o (flr (txtO o) q) X (h.on hx) (by omega) hm (hW.below hx)
    rw [stp_eq] at this
    exact this

end Go.Proofs.YtophdhpkinedgaaGreatDoor
