/- Layer 10: the contract of seek's Step; Joined. · Layer 10: the document's Line, Floor and Step. · Layer 10: an argument that is an Ask: what came in is six numbers. -/
import Derived.Test.YteamaneompijkaaGreatDoorSa44
import Derived.Test.YteamaneompijkaaGreatDoorSa41
import Derived.Test.YteamaneompijkaaGreatDoorSa39
import Derived.OpenShut
namespace Go.Proofs.YteamaneompijkaaGreatDoor
open Go.ChangeShapes Go.WideShapes Go.ChangeAt Go.RowKit
set_option maxRecDepth 100000
set_option maxHeartbeats 8000000
section
attribute [local go_sem] Oper.semAt_some
theorem stepAt10_of (g e hi N : Nat) (sr : Int) (sn : Nat) (sb : Bool) (L : List Int) (w : World)
    (HBy : Hid (∀ X, Below w.heap.size w X → Calls Tryz.prog 17 #[.pointer (some ⟨g, 0, none⟩), .int .i64 (e : Int), .int .i64 (hi : Int)] X fun y w' => ∃ v, y = .returned (.tuple #[v, .int .i64 0]) ∧ Own w' X.heap.size v L ∧ Below X.heap.size X w'))
    (HYB : Hid (∀ x ∈ L, 0 ≤ x ∧ x ≤ 255)) (HLL : Hid (L.length ≤ 268435456)) (HAt : Hid (atV L 0 = .tuple #[.agg #[.int .i32 sr, .int .i64 (sn : Int), .bool sb], .int .i64 0])) (hW : Wt w)
    (w1 : wrap64 ((e : Int) + 4) = (e : Int) + 4) (w2 : min (N : Int) ((e : Int) + 4) = (hi : Int)) :
    Calls Tryz.prog 65 #[.func (.func 17) #[.pointer (some ⟨g, 0, none⟩)] #[], .int .i64 (N : Int), .int .i64 (e : Int)] w fun y w' => y = .returned (.agg #[.int .i32 sr, .int .i64 (sn : Int), .bool sb]) ∧ Below w.heap.size w w' := by
  have b0 := (Below.refl w.heap.size w).alloc (Nat.le_refl _) (.cells #[.int .i32 0, .int .i64 0, .bool false] 82)
  have g0 := push_get w (.cells #[.int .i32 0, .int .i64 0, .bool false] 82)
  have HT := hide fun (X : World) (hx : Below w.heap.size w X) => (hW.below hx).1
  clear hW
  go_enter Tryz.func65, Tryz.ntmps65
  go_upto_region 1 with fail
  generalize w.alloc (.cells #[.int .i32 0, .int .i64 0, .bool false] 82) = w0 at *
  go_wp2_with fail
  refine (unhide HBy w0 b0).mono ?_
  rintro y v1 ⟨v, rfl, hv, x1⟩
  dsimp only
  have X1 := b0.trans (x1.mono b0.size)
  have g1 := bk9_on g0 x1
  obtain ⟨a', c', rfl, hN'⟩ := own_isNS hv (unhide HYB) (by have := unhide HLL; omega)
  have HI := hide hN'.1
  clear hv hN' HBy x1 b0 g0
  go_wp2_with fail
  refine (At_at a' c' 0 _ v1 (unhide HI) (unhide HT v1 X1)).mono ?_
  rintro y v2 ⟨rfl, x2⟩
  dsimp only
  rw [unhide HAt]
  have X2 := X1.trans (x2.mono X1.size)
  have g2 := bk9_on g1 x2
  clear x2 X1 g1 HI
  go_upto_region 3 with fail
  have x3 := (Below.refl v2.heap.size v2).alloc (Nat.le_refl _) (.cells #[.int .i32 sr, .int .i64 (sn : Int), .bool sb] 82)
  have g3 := push_get v2 (.cells #[.int .i32 sr, .int .i64 (sn : Int), .bool sb] 82)
  generalize v2.alloc (.cells #[.int .i32 sr, .int .i64 (sn : Int), .bool sb] 82) = w3 at *
  have X3 := X2.trans (x3.mono X2.size)
  have h3 := bk9_on g2 x3
  generalize v2.heap.size = gS at *
  obtain ⟨q0, q1, q2, _⟩ := cells3S g3
  obtain ⟨d0, d1, d2, f⟩ := cells3S h3
  have f0 := f 0
  have f1 := f 1
  have f2 := f 2
  have HF := hide (box3S h3 (.int .i32 sr) (.int .i64 (sn : Int)) (.bool sb))
  have HD := hide (below3S X3 (Nat.le_refl _) (.int .i32 sr) (.int .i64 (sn : Int)) (.bool sb))
  clear f x3 X2 X3 g2 g3 h3
  go_wp2_with fail
  obtain ⟨d0, d1, d2, _⟩ := cells3S (unhide HF)
  refine bodyPost_ret (v := .agg #[.int .i32 sr, .int .i64 (sn : Int), .bool sb]) (by simp [results, Tryz.results65, go_sem, d0, d1, d2]) rfl ⟨rfl, unhide HD⟩
theorem stp_eq (l : List Int) : stp l = .agg #[.int .i32 (first l).1, .int .i64 (wid l : Int), .bool (whl l)] := rfl
theorem inside0 (l : List Int) : inside l 0 = false := by unfold inside; simp
theorem stepAt10_at (g : Nat) (o : Option Nd) (e : Nat) (w : World) (h : IsRo w g o) (he : e < (txtO o).length) (hm : (txtO o).length ≤ 268435456) (hW : Wt w) :
    Calls Tryz.prog 65 #[.func (.func 17) #[.pointer (some ⟨g, 0, none⟩)] #[], .int .i64 ((txtO o).length : Int), .int .i64 (e : Int)] w fun y w' => y = .returned (stp ((txtO o).drop e)) ∧ Below w.heap.size w w' := by
  have hb := bytes_of h
  have hlen : (((txtO o).drop e).take (min (txtO o).length (e + 4) - e)).length = min (txtO o).length (e + 4) - e := by rw [List.length_take, List.length_drop]; omega
  have hst := stp_few (L := (txtO o).drop e) (n := min (txtO o).length (e + 4) - e) (by rw [List.length_drop]; omega)
  have hAt : atV (((txtO o).drop e).take (min (txtO o).length (e + 4) - e)) 0 = .tuple #[.agg #[.int .i32 (first ((txtO o).drop e)).1, .int .i64 (wid ((txtO o).drop e) : Int), .bool (whl ((txtO o).drop e))], .int .i64 0] := by
    unfold atV
    rw [if_neg (by rw [hlen]; omega), show (0 : Int).toNat = 0 from rfl, inside0, List.drop_zero, hst, stp_eq]
    rfl
  rw [stp_eq]
  exact stepAt10_of g e (min (txtO o).length (e + 4)) (txtO o).length _ _ _ _ w (hide fun X hx => BytesR9_at g o e (min (txtO o).length (e + 4)) X (h.on hx) (by omega) (by omega) hm) (hide fun x hx => hb x (List.mem_of_mem_drop (List.mem_of_mem_take hx))) (hide (by omega)) (hide hAt) hW (wrap_in _ (by omega) (by omega)) (by omega)
def stV10 (T : List Int) (p : Int) : Value := if p < 0 ∨ (T.length : Int) ≤ p then .tuple #[.int .i64 0, .agg #[.int .i32 0, .int .i64 0, .bool false], .int .i64 2] else .tuple #[.int .i64 (flr T p.toNat : Int), stp (T.drop (flr T p.toNat)), .int .i64 0]
theorem Step10_of (g N : Nat) (p : Nat) (f : Nat) (sr : Int) (sn : Nat) (sb : Bool) (w : World)
    (HLen : Hid (∀ X, Below w.heap.size w X → Calls Tryz.prog 18 #[.pointer (some ⟨g, 0, none⟩)] X fun y w' => y = .returned (.int .i64 (N : Int)) ∧ Below X.heap.size X w'))
    (HFl : Hid (∀ X, Below w.heap.size w X → Calls Tryz.prog 64 #[.func (.func 17) #[.pointer (some ⟨g, 0, none⟩)] #[], .int .i64 (N : Int), .int .i64 (p : Int)] X fun y w' => y = .returned (.int .i64 (f : Int)) ∧ Below X.heap.size X w'))
    (HSt : Hid (∀ X, Below w.heap.size w X → Calls Tryz.prog 65 #[.func (.func 17) #[.pointer (some ⟨g, 0, none⟩)] #[], .int .i64 (N : Int), .int .i64 (f : Int)] X fun y w' => y = .returned (.agg #[.int .i32 sr, .int .i64 (sn : Int), .bool sb]) ∧ Below X.heap.size X w'))
    (hp : p < N) :
    Calls Tryz.prog 32 #[.pointer (some ⟨g, 0, none⟩), .int .i64 (p : Int)] w fun y w' => y = .returned (.tuple #[.int .i64 (f : Int), .agg #[.int .i32 sr, .int .i64 (sn : Int), .bool sb], .int .i64 0]) ∧ Below w.heap.size w w' := by
  have b0 := (Below.refl w.heap.size w).alloc (Nat.le_refl _) (.cells #[.int .i32 0, .int .i64 0, .bool false] 82)
  have g0 := push_get w (.cells #[.int .i32 0, .int .i64 0, .bool false] 82)
  have d0 : decide ((p : Int) < 0) = false := decide_eq_false (by omega)
  have d1 : decide ((N : Int) ≤ (p : Int)) = false := decide_eq_false (by omega)
  have d2 : decide ((p : Int) ≥ (N : Int)) = false := decide_eq_false (by omega)
  have d3 : decide (N ≤ p) = false := decide_eq_false (by omega)
  clear hp
  go_enter Tryz.func32, Tryz.ntmps32
  go_upto_region 1 with fail
  generalize w.alloc (.cells #[.int .i32 0, .int .i64 0, .bool false] 82) = w0 at *
  go_wp2_with fail
  refine (unhide HLen w0 b0).mono ?_
  rintro y v1 ⟨rfl, x1⟩
  dsimp only
  have X1 := b0.trans (x1.mono b0.size)
  have g1 := bk9_on g0 x1
  clear x1 b0 g0
  go_wp2_with fail
  refine (unhide HLen v1 X1).mono ?_
  rintro y v2 ⟨rfl, x2⟩
  dsimp only
  have X2 := X1.trans (x2.mono X1.size)
  have g2 := bk9_on g1 x2
  clear x2 X1 g1
  go_wp2_with fail
  refine (unhide HFl v2 X2).mono ?_
  rintro y v3 ⟨rfl, x3⟩
  dsimp only
  have X3 := X2.trans (x3.mono X2.size)
  have g3 := bk9_on g2 x3
  clear x3 X2 g2
  go_wp2_with fail
  refine (unhide HLen v3 X3).mono ?_
  rintro y v4 ⟨rfl, x4⟩
  dsimp only
  have X4 := X3.trans (x4.mono X3.size)
  have g4 := bk9_on g3 x4
  clear x4 X3 g3
  go_wp2_with fail
  refine (unhide HSt v4 X4).mono ?_
  rintro y v5 ⟨rfl, x5⟩
  dsimp only
  have X5 := X4.trans (x5.mono X4.size)
  have g5 := bk9_on g4 x5
  obtain ⟨c0, c1, c2, ff⟩ := cells3S g5
  have f0 := ff 0
  have f1 := ff 1
  have f2 := ff 2
  have HF := hide (box3S g5 (.int .i32 sr) (.int .i64 (sn : Int)) (.bool sb))
  have HD := hide (below3S X5 (Nat.le_refl _) (.int .i32 sr) (.int .i64 (sn : Int)) (.bool sb))
  clear ff x5 X4 g4 X5 g5 HLen HFl HSt
  go_wp2_with fail
  obtain ⟨c0, c1, c2, _⟩ := cells3S (unhide HF)
  refine bodyPost_ret (v := .tuple #[.int .i64 (f : Int), .agg #[.int .i32 sr, .int .i64 (sn : Int), .bool sb], .int .i64 0]) (by simp [results, Tryz.results32, go_sem, c0, c1, c2]) rfl ⟨rfl, unhide HD⟩
theorem StepE10_of (g N : Nat) (p : Int) (w : World)
    (HLen : Hid (∀ X, Below w.heap.size w X → Calls Tryz.prog 18 #[.pointer (some ⟨g, 0, none⟩)] X fun y w' => y = .returned (.int .i64 (N : Int)) ∧ Below X.heap.size X w')) (hp : p < 0 ∨ (N : Int) ≤ p) :
    Calls Tryz.prog 32 #[.pointer (some ⟨g, 0, none⟩), .int .i64 p] w fun y w' => y = .returned (.tuple #[.int .i64 0, .agg #[.int .i32 0, .int .i64 0, .bool false], .int .i64 2]) ∧ Below w.heap.size w w' := by
  have b0 := (Below.refl w.heap.size w).alloc (Nat.le_refl _) (.cells #[.int .i32 0, .int .i64 0, .bool false] 82)
  have g0 := push_get w (.cells #[.int .i32 0, .int .i64 0, .bool false] 82)
  by_cases h0 : p < 0
  · have d0 : decide (p < 0) = true := decide_eq_true h0
    go_enter Tryz.func32, Tryz.ntmps32
    go_upto_region 1 with fail
    generalize w.alloc (.cells #[.int .i32 0, .int .i64 0, .bool false] 82) = w0 at *
    obtain ⟨c0, c1, c2, ff⟩ := cells3S g0
    have f0 := ff 0
    have f1 := ff 1
    have f2 := ff 2
    have HF := hide (box3S g0 (.int .i32 0) (.int .i64 0) (.bool false))
    have HD := hide (below3S b0 (Nat.le_refl _) (.int .i32 0) (.int .i64 0) (.bool false))
    clear ff g0 b0 hp
    go_wp2_with fail
    obtain ⟨c0, c1, c2, _⟩ := cells3S (unhide HF)
    refine bodyPost_ret (v := .tuple #[.int .i64 0, .agg #[.int .i32 0, .int .i64 0, .bool false], .int .i64 2]) (by simp [results, Tryz.results32, go_sem, c0, c1, c2]) rfl ⟨rfl, unhide HD⟩
  · have h1 : (N : Int) ≤ p := by omega
    have d0 : decide (p < 0) = false := decide_eq_false h0
    have d1 : decide ((N : Int) ≤ p) = true := decide_eq_true h1
    have d2 : decide (p ≥ (N : Int)) = true := decide_eq_true h1
    go_enter Tryz.func32, Tryz.ntmps32
    go_upto_region 1 with fail
    generalize w.alloc (.cells #[.int .i32 0, .int .i64 0, .bool false] 82) = w0 at *
    go_wp2_with fail
    refine (unhide HLen w0 b0).mono ?_
    rintro y v1 ⟨rfl, x1⟩
    dsimp only
    have X1 := b0.trans (x1.mono b0.size)
    have g1 := bk9_on g0 x1
    obtain ⟨c0, c1, c2, ff⟩ := cells3S g1
    have f0 := ff 0
    have f1 := ff 1
    have f2 := ff 2
    have HF := hide (box3S g1 (.int .i32 0) (.int .i64 0) (.bool false))
    have HD := hide (below3S X1 (Nat.le_refl _) (.int .i32 0) (.int .i64 0) (.bool false))
    clear ff g0 b0 hp x1 X1 g1
    go_wp2_with fail
    obtain ⟨c0, c1, c2, _⟩ := cells3S (unhide HF)
    refine bodyPost_ret (v := .tuple #[.int .i64 0, .agg #[.int .i32 0, .int .i64 0, .bool false], .int .i64 2]) (by simp [results, Tryz.results32, go_sem, c0, c1, c2]) rfl ⟨rfl, unhide HD⟩
theorem Step10_at (g : Nat) (o : Option Nd) (p : Int) (w : World) (h : IsRo w g o) (hm : (txtO o).length ≤ 268435456) (hW : Wt w) :
    Calls Tryz.prog 32 #[.pointer (some ⟨g, 0, none⟩), .int .i64 p] w fun y w' => y = .returned (stV10 (txtO o) p) ∧ Below w.heap.size w w' := by
  have hb := bytes_of h
  have hLen := fun (X : World) (hx : Below w.heap.size w X) => Len9_at g o X (h.on hx)
  by_cases hp : p < 0 ∨ ((txtO o).length : Int) ≤ p
  · unfold stV10
    rw [if_pos hp]
    exact StepE10_of g _ p w (hide hLen) hp
  · obtain ⟨q, rfl⟩ : ∃ q : Nat, p = (q : Int) := ⟨p.toNat, by omega⟩
    have hf := flr_le (txtO o) q
    unfold stV10
    rw [if_neg hp, Int.toNat_natCast, stp_eq]
    refine Step10_of g (txtO o).length q (flr (txtO o) q) _ _ _ w (hide hLen) (hide fun X hx => floor10_at g o q X (h.on hx) hb (by omega) hm (hW.below hx)) (hide fun X hx => ?_) (by omega)
    have := stepAt10_at g o (flr (txtO o) q) X (h.on hx) (by omega) hm (hW.below hx)
    rw [stp_eq] at this
    exact this
end
section
attribute [local go_sem] Oper.semAt_some
theorem RFloor10_at (a0 : Option Addr) (cap : Nat) (l : List Int) (p : Int) (w : World) (hB : IsB w a0 cap l) (hl : l.length ≤ 600) :
    Calls Tryz.prog 31 #[.slice a0 l.length cap, .int .i64 p] w fun y w' => y = .returned (floorV l p) ∧ Below w.heap.size w w' := by
  unfold floorV
  by_cases hp : p < 0 ∨ (l.length : Int) < p
  · rw [if_pos hp]
    have HT : Hid (decide (p < 0) = true ∨ (decide (p < 0) = false ∧ decide (p > (l.length : Int)) = true ∧ decide ((l.length : Int) < p) = true)) := hide (by
      simp only [decide_eq_true_eq, decide_eq_false_iff_not]; omega)
    clear hB hl hp
    rcases unhide HT with t1 | ⟨t1, t2, t3⟩
    all_goals
      go_enter Tryz.func31, Tryz.ntmps31
      go_wp2_with fail
      refine bodyPost_ret (results_tmp2 rfl _ _ _) rfl ⟨rfl, Below.refl _ _⟩
  · rw [if_neg hp]
    obtain ⟨q, rfl⟩ : ∃ q : Nat, p = (q : Int) := ⟨p.toNat, by omega⟩
    have t1 : decide ((q : Int) < 0) = false := decide_eq_false (by omega)
    have t2 : decide ((q : Int) > (l.length : Int)) = false := decide_eq_false (by omega)
    have t3 : decide ((l.length : Int) < (q : Int)) = false := decide_eq_false (by omega)
    have t4 : decide (l.length < q) = false := decide_eq_false (by omega)
    have HF := hide (RFloor7_at a0 cap l q w hB (by omega) (by omega))
    rw [Int.toNat_natCast]
    clear hB hl hp
    generalize flr l q = f at *
    go_enter Tryz.func31, Tryz.ntmps31
    go_wp2_with fail
    refine (unhide HF).mono ?_
    rintro y w1 ⟨rfl, x1⟩
    dsimp only
    go_wp2_with fail
    refine bodyPost_ret (results_tmp2 rfl _ _ _) rfl ⟨rfl, x1⟩
def rlV (o : Option Ln) : Value := match o with | some e => .tuple #[.agg #[.int .i64 (e.2.1 : Int), .int .i64 (e.2.2.1 : Int), .int .i64 (e.2.2.2 : Int)], .int .i64 0] | none => .tuple #[.agg #[.int .i64 0, .int .i64 0, .int .i64 0], .int .i64 2]
theorem res3L {X : World} {a : Nat} {t : TypeId} {x0 x1 x2 : Value} {v : Value} (tmps : Array Value) (g4 : tmps[4]?.getD undef = .pointer (some ⟨a, 0, none⟩)) (g5 : tmps[5]?.getD undef = v)
    (h : Cls X a t #[x0, x1, x2]) : (results Tryz.f29 tmps).run Tryz.prog X = .ok (.tuple #[.agg #[x0, x1, x2], v]) X := by
  obtain ⟨p0, p1, p2⟩ := cells3w h
  simp [results, Tryz.results29, go_sem, g4, g5, p0, p1, p2]
theorem RLine10_at (a0 : Option Addr) (cap : Nat) (l : List Int) (k : Int) (w : World) (hB : IsB w a0 cap l) (hl : l.length ≤ 600) :
    Calls Tryz.prog 29 #[.slice a0 l.length cap, .int .i64 k] w fun y w' => y = .returned (rlV (nbr l k)) ∧ Below w.heap.size w w' := by
  have kS := Cls.new w 76 #[.int .i64 0, .int .i64 0, .int .i64 0]
  have b0 := (Below.refl w.heap.size w).alloc (Nat.le_refl _) (.cells #[.int .i64 0, .int .i64 0, .int .i64 0] 76)
  go_enter Tryz.func29, Tryz.ntmps29
  go_upto_region 1 with fail
  generalize hgS : w.heap.size = gS at kS ⊢
  have HGS := hide hgS
  clear hgS
  generalize w.alloc (.cells #[.int .i64 0, .int .i64 0, .int .i64 0] 76) = w0 at *
  have hB0 := hB.below b0 (Nat.le_refl _)
  go_wp2_with fail
  refine (Rows_at a0 cap l w0 hB0 (by omega)).mono ?_
  rintro y w1 ⟨v, rfl, o1, x1⟩
  have hN := LN_len l
  obtain ⟨gR, cR, rfl, lR, zR⟩ := rowR o1 (LN_pos l)
  have b1 := b0.trans (x1.mono b0.size)
  have kS1 := kS.below x1 kS.lt
  clear o1 x1 kS hB0 b0 hB hl
  dsimp only
  obtain ⟨c0, c1, c2⟩ := cells3w kS1
  by_cases hk : 0 ≤ k ∧ k < ((LN l).length : Int)
  case neg =>
    have HNB : Hid (nbr l k = none) := hide (by unfold nbr; rw [if_neg hk])
    have HT : Hid (decide (k < 0) = true ∨ (decide (k < 0) = false ∧ decide (k ≥ ((LN l).length : Int)) = true ∧ decide (((LN l).length : Int) ≤ k) = true)) := hide (by
      simp only [decide_eq_true_eq, decide_eq_false_iff_not]; omega)
    have s1 := (kS1.set 0 (.int .i64 0)).set 1 (.int .i64 0)
    have s2 := s1.set 2 (.int .i64 0)
    simp only [List.setIfInBounds_toArray, List.set_cons_zero, List.set_cons_succ] at s2
    have f0 := kS1.frozen 0
    have f1 := kS1.frozen 1
    have f2 := kS1.frozen 2
    have HK := hide s2
    have HB1 : Hid (Below w.heap.size w (((w1.setCell ⟨gS, 0, none⟩ (.int .i64 0)).setCell ⟨gS, 1, none⟩ (.int .i64 0)).setCell ⟨gS, 2, none⟩ (.int .i64 0))) := hide (by
      have e : w.heap.size ≤ gS := by rw [unhide HGS]; exact Nat.le_refl _
      exact ((b1.setCell (p := ⟨gS, 0, none⟩) e _).setCell (p := ⟨gS, 1, none⟩) e _).setCell (p := ⟨gS, 2, none⟩) e _)
    clear hk s1 s2 lR zR kS1 hN b1
    rcases unhide HT with t1 | ⟨t1, t2, t3⟩
    all_goals
      go_wp2_with fail
      refine bodyPost_ret (v := rlV none) (res3L _ rfl rfl (unhide HK)) rfl ⟨by rw [unhide HNB], unhide HB1⟩
  obtain ⟨i, rfl⟩ : ∃ i : Nat, k = (i : Int) := ⟨k.toNat, by omega⟩
  have hi : i < (LN l).length := by omega
  have t1 : decide ((i : Int) < 0) = false := decide_eq_false (by omega)
  have t2 : decide ((i : Int) ≥ ((LN l).length : Int)) = false := decide_eq_false (by omega)
  have t3 : decide (((LN l).length : Int) ≤ (i : Int)) = false := decide_eq_false (by omega)
  have t4 : decide ((LN l).length ≤ i) = false := decide_eq_false (by omega)
  have HNB : Hid (nbr l (i : Int) = some ((LN l).getD i z4)) := hide (by unfold nbr; rw [if_pos ⟨by omega, by omega⟩]; simp)
  obtain ⟨r0, r1, r2⟩ := lR i hi
  generalize (LN l).getD i z4 = e at *
  have s1 := (kS1.set 0 (.int .i64 (e.2.1 : Int))).set 1 (.int .i64 (e.2.2.1 : Int))
  have s2 := s1.set 2 (.int .i64 (e.2.2.2 : Int))
  simp only [List.setIfInBounds_toArray, List.set_cons_zero, List.set_cons_succ] at s2
  have f0 := kS1.frozen 0
  have f1 := kS1.frozen 1
  have f2 := kS1.frozen 2
  have HK := hide s2
  have HB1 : Hid (Below w.heap.size w (((w1.setCell ⟨gS, 0, none⟩ (.int .i64 (e.2.1 : Int))).setCell ⟨gS, 1, none⟩ (.int .i64 (e.2.2.1 : Int))).setCell ⟨gS, 2, none⟩ (.int .i64 (e.2.2.2 : Int)))) := hide (by
    have e : w.heap.size ≤ gS := by rw [unhide HGS]; exact Nat.le_refl _
    exact ((b1.setCell (p := ⟨gS, 0, none⟩) e _).setCell (p := ⟨gS, 1, none⟩) e _).setCell (p := ⟨gS, 2, none⟩) e _)
  clear hk s1 s2 lR zR kS1 hN b1
  go_wp2_with fail
  refine bodyPost_ret (v := rlV (some e)) (res3L _ rfl rfl (unhide HK)) rfl ⟨by rw [unhide HNB], unhide HB1⟩
theorem res3T {X : World} {a : Nat} {t : TypeId} {x0 x1 x2 u v : Value} (tmps : Array Value) (g4 : tmps[4]?.getD undef = u) (g5 : tmps[5]?.getD undef = .pointer (some ⟨a, 0, none⟩)) (g6 : tmps[6]?.getD undef = v)
    (h : Cls X a t #[x0, x1, x2]) : (results Tryz.f33 tmps).run Tryz.prog X = .ok (.tuple #[u, .agg #[x0, x1, x2], v]) X := by
  obtain ⟨p0, p1, p2⟩ := cells3w h
  simp [results, Tryz.results33, go_sem, g4, g5, g6, p0, p1, p2]
theorem RStep10_at (a0 : Option Addr) (cap : Nat) (l : List Int) (p : Int) (w : World) (hB : IsB w a0 cap l) (hl : l.length ≤ 600) :
    Calls Tryz.prog 33 #[.slice a0 l.length cap, .int .i64 p] w fun y w' => y = .returned (stV10 l p) ∧ Below w.heap.size w w' := by
  unfold stV10
  have kS := Cls.new w 82 #[.int .i32 0, .int .i64 0, .bool false]
  have b0 := (Below.refl w.heap.size w).alloc (Nat.le_refl _) (.cells #[.int .i32 0, .int .i64 0, .bool false] 82)
  by_cases hp : p < 0 ∨ (l.length : Int) ≤ p
  · rw [if_pos hp]
    have HT : Hid (decide (p < 0) = true ∨ (decide (p < 0) = false ∧ decide (p ≥ (l.length : Int)) = true ∧ decide ((l.length : Int) ≤ p) = true)) := hide (by
      simp only [decide_eq_true_eq, decide_eq_false_iff_not]; omega)
    clear hB hl hp
    go_enter Tryz.func33, Tryz.ntmps33
    go_upto_region 1 with fail
    generalize hgS : w.heap.size = gS at kS ⊢
    have HGS := hide hgS
    clear hgS
    generalize w.alloc (.cells #[.int .i32 0, .int .i64 0, .bool false] 82) = w0 at *
    obtain ⟨c0, c1, c2⟩ := cells3w kS
    have s2 := ((kS.set 0 (.int .i32 0)).set 1 (.int .i64 0)).set 2 (.bool false)
    simp only [List.setIfInBounds_toArray, List.set_cons_zero, List.set_cons_succ] at s2
    have f0 := kS.frozen 0
    have f1 := kS.frozen 1
    have f2 := kS.frozen 2
    have HK := hide s2
    have HB1 : Hid (Below w.heap.size w (((w0.setCell ⟨gS, 0, none⟩ (.int .i32 0)).setCell ⟨gS, 1, none⟩ (.int .i64 0)).setCell ⟨gS, 2, none⟩ (.bool false))) := hide (by
      have e : w.heap.size ≤ gS := by rw [unhide HGS]; exact Nat.le_refl _
      exact ((b0.setCell (p := ⟨gS, 0, none⟩) e _).setCell (p := ⟨gS, 1, none⟩) e _).setCell (p := ⟨gS, 2, none⟩) e _)
    clear s2 kS b0
    rcases unhide HT with t1 | ⟨t1, t2, t3⟩
    all_goals
      go_wp2_with fail
      refine bodyPost_ret (v := .tuple #[.int .i64 0, .agg #[.int .i32 0, .int .i64 0, .bool false], .int .i64 2]) (res3T _ rfl rfl rfl (unhide HK)) rfl ⟨rfl, unhide HB1⟩
  · rw [if_neg hp]
    obtain ⟨q, rfl⟩ : ∃ q : Nat, p = (q : Int) := ⟨p.toNat, by omega⟩
    have t1 : decide ((q : Int) < 0) = false := decide_eq_false (by omega)
    have t2 : decide ((q : Int) ≥ (l.length : Int)) = false := decide_eq_false (by omega)
    have t3 : decide ((l.length : Int) ≤ (q : Int)) = false := decide_eq_false (by omega)
    have t4 : decide (l.length ≤ q) = false := decide_eq_false (by omega)
    rw [Int.toNat_natCast]
    have hfl : flr l q < l.length := by have := flr_le l q; omega
    obtain ⟨g, off, rfl, hL⟩ : ∃ g off, a0 = some ⟨g, off, none⟩ ∧ Lies w g off l := by
      rcases hB.2.2.1 with e | e
      · rw [e] at hfl; simp at hfl
      · exact e
    have hgw : g < w.heap.size := hL.lt (by omega)
    have HF := hide fun (X : World) (hx : Below w.heap.size w X) => RFloor7_at (some ⟨g, off, none⟩) cap l q X (hB.below hx (Nat.le_refl _)) (by omega) (by omega)
    have HA := hide fun (X : World) (hx : Below w.heap.size w X) => RAt4_at g off cap (flr l q) l X ((hB.below hx (Nat.le_refl _)).2.2.1.elim (fun e => by rw [e] at hfl; simp at hfl) (fun ⟨g', off', e, h⟩ => by cases e; exact h)) (Nat.lt_of_lt_of_le hgw hx.size) hB.1 hB.2.1 hfl
    have HST : Hid (stp (l.drop (flr l q)) = stepV (tri (l.drop (flr l q))).1 (tri (l.drop (flr l q))).2.1 (tri (l.drop (flr l q))).2.2) := hide rfl
    rw [unhide HST]
    clear hB hl hp hL hfl HST
    generalize tri (l.drop (flr l q)) = T at *
    obtain ⟨ru, wd, wh⟩ := T
    generalize flr l q = f at *
    unfold stepV at HA ⊢
    dsimp only at HA ⊢
    go_enter Tryz.func33, Tryz.ntmps33
    go_upto_region 1 with fail
    generalize hgS : w.heap.size = gS at kS ⊢
    have HGS := hide hgS
    clear hgS
    generalize w.alloc (.cells #[.int .i32 0, .int .i64 0, .bool false] 82) = w0 at *
    go_wp2_with fail
    refine (unhide HF w0 b0).mono ?_
    rintro y w1 ⟨rfl, x1⟩
    dsimp only
    have b1 := b0.trans (x1.mono b0.size)
    have k1 := kS.below x1 kS.lt
    clear x1 kS b0 HF
    go_wp2_with fail
    refine (unhide HA w1 b1).mono ?_
    rintro y w2 ⟨rfl, x2⟩
    dsimp only
    have b2 := b1.trans (x2.mono b1.size)
    have k2 := k1.below x2 k1.lt
    clear x2 k1 b1 HA
    obtain ⟨c0, c1, c2⟩ := cells3w k2
    have s2 := ((k2.set 0 (.int .i32 ru)).set 1 (.int .i64 wd)).set 2 (.bool wh)
    simp only [List.setIfInBounds_toArray, List.set_cons_zero, List.set_cons_succ] at s2
    have f0 := k2.frozen 0
    have f1 := k2.frozen 1
    have f2 := k2.frozen 2
    have HK := hide s2
    have HB1 : Hid (Below w.heap.size w (((w2.setCell ⟨gS, 0, none⟩ (.int .i32 ru)).setCell ⟨gS, 1, none⟩ (.int .i64 wd)).setCell ⟨gS, 2, none⟩ (.bool wh))) := hide (by
      have e : w.heap.size ≤ gS := by rw [unhide HGS]; exact Nat.le_refl _
      exact ((b2.setCell (p := ⟨gS, 0, none⟩) e _).setCell (p := ⟨gS, 1, none⟩) e _).setCell (p := ⟨gS, 2, none⟩) e _)
    clear s2 k2 b2
    go_wp2_with fail
    refine bodyPost_ret (v := .tuple #[.int .i64 (f : Int), .agg #[.int .i32 ru, .int .i64 wd, .bool wh], .int .i64 0]) (res3T _ rfl rfl rfl (unhide HK)) rfl ⟨rfl, unhide HB1⟩
end
section
theorem one_intK {H : Type} {enc : TypeId × Value → H} {P : Program} {W : World} {spare : Nat → Bool} {m : Nat} {t : TypeId} (ht : P.underlying t = some (.int .i64)) {xs : List (DataW H × List MemPlace)} {L : List Value} {i k : Nat} (hi : i < xs.length)
    (h : DataW.trod enc P W 0 spare true m t ((L.drop k).take 1) = xs[i]?) : ∃ n : Int, L[k]? = some (.int .i64 n) ∧ (Lit.int .i64 n).wf = true := by
  rw [List.getElem?_eq_getElem hi] at h
  obtain ⟨n, hn, _, hw⟩ := DataW.trod_int ht h
  refine ⟨n, ?_, hw⟩
  have := congrArg (·[0]?) hn
  simpa [List.getElem?_take, List.getElem?_drop] using this
def AskW (a b c d e f : Int) : Prop := (Lit.int .i64 a).wf = true ∧ (Lit.int .i64 b).wf = true ∧ (Lit.int .i64 c).wf = true ∧ (Lit.int .i64 d).wf = true ∧ (Lit.int .i64 e).wf = true ∧ (Lit.int .i64 f).wf = true
theorem ask10_of_trod {H : Type} {enc : TypeId × Value → H} {W : World} {v : Value} {d0 : DataW H} {p0 : List MemPlace} {base : Nat} (hv : Value.okWide Tryz.prog W .any base 28 v)
    (h0 : DataW.Trod enc Tryz.prog W 0 (fun _ => true) true 28 v d0 p0) : ∃ a b c d e f : Int, v = .agg #[.int .i64 a, .int .i64 b, .int .i64 c, .int .i64 d, .int .i64 e, .int .i64 f] ∧ AskW a b c d e f := by
  obtain ⟨cs, rfl, hs⟩ := okWide_struct Tryz.underlying28 hv
  obtain ⟨fuel, hf⟩ := h0
  obtain ⟨xs, n, _, _, _, hx, hall⟩ := DataW.trod_struct Tryz.underlying28 hf
  have hs' : cs.size = 6 := hs.trans (by kernel_rfl)
  have hx' : xs.length = 5 := hx
  have hl : cs.toList.length = 6 := by simpa using hs'
  have hc : Tryz.prog.cellsOf 3 = 1 := by kernel_rfl
  have hc2 : Tryz.prog.cellsOf 24 = 2 := by kernel_rfl
  have hc3 : Tryz.prog.cellsOf 25 = 1 := by kernel_rfl
  have hc4 : Tryz.prog.cellsOf 26 = 1 := by kernel_rfl
  have g0 : DataW.trod enc Tryz.prog W 0 (fun _ => true) true n 3 ((cs.toList.drop 0).take (Tryz.prog.cellsOf 3)) = xs[0]? := hall 0 _ rfl
  have g1 : DataW.trod enc Tryz.prog W 0 (fun _ => true) true n 24 ((cs.toList.drop 1).take (Tryz.prog.cellsOf 24)) = xs[1]? := hall 1 _ rfl
  have g2 : DataW.trod enc Tryz.prog W 0 (fun _ => true) true n 25 ((cs.toList.drop 3).take (Tryz.prog.cellsOf 25)) = xs[2]? := hall 2 _ rfl
  have g3 : DataW.trod enc Tryz.prog W 0 (fun _ => true) true n 25 ((cs.toList.drop 4).take (Tryz.prog.cellsOf 25)) = xs[3]? := hall 3 _ rfl
  have g4 : DataW.trod enc Tryz.prog W 0 (fun _ => true) true n 26 ((cs.toList.drop 5).take (Tryz.prog.cellsOf 26)) = xs[4]? := hall 4 _ rfl
  rw [hc2, List.getElem?_eq_getElem (show 1 < xs.length by omega)] at g1
  rw [hc] at g0
  rw [hc3] at g2 g3
  rw [hc4] at g4
  obtain ⟨ys, k, _, _, _, hy, hall2⟩ := DataW.trod_struct Tryz.underlying24 g1
  have hy' : ys.length = 2 := hy
  have j0 : DataW.trod enc Tryz.prog W 0 (fun _ => true) true k 3 ((((cs.toList.drop 1).take 2).drop 0).take (Tryz.prog.cellsOf 3)) = ys[0]? := hall2 0 _ rfl
  have j1 : DataW.trod enc Tryz.prog W 0 (fun _ => true) true k 3 ((((cs.toList.drop 1).take 2).drop 1).take (Tryz.prog.cellsOf 3)) = ys[1]? := hall2 1 _ rfl
  rw [hc] at j0 j1
  obtain ⟨a, e0, w0⟩ := one_intK Tryz.underlying3 (by omega) g0
  obtain ⟨b, e1, w1⟩ := one_intK Tryz.underlying3 (by omega) j0
  obtain ⟨c, e2, w2⟩ := one_intK Tryz.underlying3 (by omega) j1
  obtain ⟨d, e3, w3⟩ := one_intK Tryz.underlying25 (by omega) g2
  obtain ⟨e, e4, w4⟩ := one_intK Tryz.underlying25 (by omega) g3
  obtain ⟨f, e5, w5⟩ := one_intK Tryz.underlying26 (by omega) g4
  refine ⟨a, b, c, d, e, f, ?_, w0, w1, w2, w3, w4, w5⟩
  congr 1
  apply Array.ext'
  apply List.ext_getElem?
  intro i
  match i with
  | 0 => exact e0
  | 1 => rw [show cs.toList[1]? = ((cs.toList.drop 1).take 2)[0]? by simp]; exact e1
  | 2 => rw [show cs.toList[2]? = ((cs.toList.drop 1).take 2)[1]? by simp]; exact e2
  | 3 => exact e3
  | 4 => exact e4
  | 5 => exact e5
  | i + 6 => rw [List.getElem?_eq_none (by omega)]; rfl
end
end Go.Proofs.YteamaneompijkaaGreatDoor
