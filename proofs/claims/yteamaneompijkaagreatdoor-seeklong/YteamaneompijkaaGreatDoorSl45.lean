/- Layer 10: the contract of seek's Step; Joined. · Layer 10: an argument that is an Ask: what came in is six numbers. · Layer 10's laws: awake; SeekNil's walk. · Layer 10's laws: Joined, Large; what SeekSteps asks of steps, in plain words. · Layer 10's laws: lists of byte strings put together. -/
import Derived.Test.YteamaneompijkaaGreatDoorSl44
import Derived.Test.YteamaneompijkaaGreatDoorSl40
import Derived.OpenShut
import Derived.Test.YteamaneompijkaaGreatDoorSl41

section
namespace Go.Proofs.YteamaneompijkaaGreatDoor
open Go.ChangeShapes Go.WideShapes Go.ChangeAt Go.RowKit
attribute [local go_sem] Oper.semAt_some

set_option maxRecDepth 100000 in
set_option maxHeartbeats 4000000 in
theorem stepAt10_of (g e hi N : Nat) (sr : Int) (sn : Nat) (sb : Bool) (L : List Int) (w : World)
    (HBy : Hid (∀ X, Below w.heap.size w X → Calls Tryz.prog 17 #[.pointer (some ⟨g, 0, none⟩), .int .i64 (e : Int), .int .i64 (hi : Int)] X fun y w' => ∃ v, y = .returned (.tuple #[v, .int .i64 0]) ∧ Own w' X.heap.size v L ∧ Below X.heap.size X w'))
    (HYB : Hid (∀ x ∈ L, 0 ≤ x ∧ x ≤ 255)) (HLL : Hid (L.length ≤ 268435456)) (HAt : Hid (atV L 0 = .tuple #[.agg #[.int .i32 sr, .int .i64 (sn : Int), .bool sb], .int .i64 0])) (hW : Wt w)
    (w1 : wrap64 ((e : Int) + 4) = (e : Int) + 4) (w2 : min (N : Int) ((e : Int) + 4) = (hi : Int)) :
    Calls Tryz.prog 65 #[.func (.func 17) #[.pointer (some ⟨g, 0, none⟩)] #[], .int .i64 (N : Int), .int .i64 (e : Int)] w fun y w' => y = .returned (.agg #[.int .i32 sr, .int .i64 (sn : Int), .bool sb]) ∧ Below w.heap.size w w' := by
  have b0 := (Below.refl w.heap.size w).alloc (Nat.le_refl _) (.cells #[.int .i32 0, .int .i64 0, .bool false] 82)
  have g0 := push_get w (.cells #[.int .i32 0, .int .i64 0, .bool false] 82)
  have HT := hide fun (X : World) (hx : Below w.heap.size w X) => (hW.below hx).1
  clear hW
  go_enter Tryz.func65, Tryz.ntmps65
  go_upto_region 1 with fail
  generalize w.alloc (.cells #[.int .i32 0, .int .i64 0, .bool false] 82) = w0 at *
  go_wp2_with fail
  refine (unhide HBy w0 b0).mono ?_
  rintro y v1 ⟨v, rfl, hv, x1⟩
  dsimp only
  have X1 := b0.trans (x1.mono b0.size)
  have g1 := bk9_on g0 x1
  obtain ⟨a', c', rfl, hN'⟩ := own_isNS hv (unhide HYB) (by have := unhide HLL; omega)
  have HI := hide hN'.1
  clear hv hN' HBy x1 b0 g0
  go_wp2_with fail
  refine (At_at a' c' 0 _ v1 (unhide HI) (unhide HT v1 X1)).mono ?_
  rintro y v2 ⟨rfl, x2⟩
  dsimp only
  rw [unhide HAt]
  have X2 := X1.trans (x2.mono X1.size)
  have g2 := bk9_on g1 x2
  clear x2 X1 g1 HI
  go_upto_region 3 with fail
  have x3 := (Below.refl v2.heap.size v2).alloc (Nat.le_refl _) (.cells #[.int .i32 sr, .int .i64 (sn : Int), .bool sb] 82)
  have g3 := push_get v2 (.cells #[.int .i32 sr, .int .i64 (sn : Int), .bool sb] 82)
  generalize v2.alloc (.cells #[.int .i32 sr, .int .i64 (sn : Int), .bool sb] 82) = w3 at *
  have X3 := X2.trans (x3.mono X2.size)
  have h3 := bk9_on g2 x3
  generalize v2.heap.size = gS at *
  obtain ⟨q0, q1, q2, _⟩ := cells3S g3
  obtain ⟨d0, d1, d2, f⟩ := cells3S h3
  have f0 := f 0
  have f1 := f 1
  have f2 := f 2
  have HF := hide (box3S h3 (.int .i32 sr) (.int .i64 (sn : Int)) (.bool sb))
  have HD := hide (below3S X3 (Nat.le_refl _) (.int .i32 sr) (.int .i64 (sn : Int)) (.bool sb))
  clear f x3 X2 X3 g2 g3 h3
  go_wp2_with fail
  obtain ⟨d0, d1, d2, _⟩ := cells3S (unhide HF)
  refine bodyPost_ret (v := .agg #[.int .i32 sr, .int .i64 (sn : Int), .bool sb]) (by simp [results, Tryz.results65, go_sem, d0, d1, d2]) rfl ⟨rfl, unhide HD⟩
theorem stp_eq (l : List Int) : stp l = .agg #[.int .i32 (first l).1, .int .i64 (wid l : Int), .bool (whl l)] := rfl
theorem inside0 (l : List Int) : inside l 0 = false := by unfold inside; simp
theorem stepAt10_at (g : Nat) (o : Option Nd) (e : Nat) (w : World) (h : IsRo w g o) (he : e < (txtO o).length) (hm : (txtO o).length ≤ 268435456) (hW : Wt w) :
    Calls Tryz.prog 65 #[.func (.func 17) #[.pointer (some ⟨g, 0, none⟩)] #[], .int .i64 ((txtO o).length : Int), .int .i64 (e : Int)] w fun y w' => y = .returned (stp ((txtO o).drop e)) ∧ Below w.heap.size w w' := by
  have hb := bytes_of h
  have hlen : (((txtO o).drop e).take (min (txtO o).length (e + 4) - e)).length = min (txtO o).length (e + 4) - e := by rw [List.length_take, List.length_drop]; omega
  have hst := stp_few (L := (txtO o).drop e) (n := min (txtO o).length (e + 4) - e) (by rw [List.length_drop]; omega)
  have hAt : atV (((txtO o).drop e).take (min (txtO o).length (e + 4) - e)) 0 = .tuple #[.agg #[.int .i32 (first ((txtO o).drop e)).1, .int .i64 (wid ((txtO o).drop e) : Int), .bool (whl ((txtO o).drop e))], .int .i64 0] := by
    unfold atV
    rw [if_neg (by rw [hlen]; omega), show (0 : Int).toNat = 0 from rfl, inside0, List.drop_zero, hst, stp_eq]
    rfl
  rw [stp_eq]
  exact stepAt10_of g e (min (txtO o).length (e + 4)) (txtO o).length _ _ _ _ w (hide fun X hx => BytesR9_at g o e (min (txtO o).length (e + 4)) X (h.on hx) (by omega) (by omega) hm) (hide fun x hx => hb x (List.mem_of_mem_drop (List.mem_of_mem_take hx))) (hide (by omega)) (hide hAt) hW (wrap_in _ (by omega) (by omega)) (by omega)
/-- what Step answers -/
def stV10 (T : List Int) (p : Int) : Value := if p < 0 ∨ (T.length : Int) ≤ p then .tuple #[.int .i64 0, .agg #[.int .i32 0, .int .i64 0, .bool false], .int .i64 2] else .tuple #[.int .i64 (flr T p.toNat : Int), stp (T.drop (flr T p.toNat)), .int .i64 0]
set_option maxRecDepth 100000 in
set_option maxHeartbeats 4000000 in
theorem Step10_of (g N : Nat) (p : Nat) (f : Nat) (sr : Int) (sn : Nat) (sb : Bool) (w : World)
    (HLen : Hid (∀ X, Below w.heap.size w X → Calls Tryz.prog 18 #[.pointer (some ⟨g, 0, none⟩)] X fun y w' => y = .returned (.int .i64 (N : Int)) ∧ Below X.heap.size X w'))
    (HFl : Hid (∀ X, Below w.heap.size w X → Calls Tryz.prog 64 #[.func (.func 17) #[.pointer (some ⟨g, 0, none⟩)] #[], .int .i64 (N : Int), .int .i64 (p : Int)] X fun y w' => y = .returned (.int .i64 (f : Int)) ∧ Below X.heap.size X w'))
    (HSt : Hid (∀ X, Below w.heap.size w X → Calls Tryz.prog 65 #[.func (.func 17) #[.pointer (some ⟨g, 0, none⟩)] #[], .int .i64 (N : Int), .int .i64 (f : Int)] X fun y w' => y = .returned (.agg #[.int .i32 sr, .int .i64 (sn : Int), .bool sb]) ∧ Below X.heap.size X w'))
    (hp : p < N) :
    Calls Tryz.prog 32 #[.pointer (some ⟨g, 0, none⟩), .int .i64 (p : Int)] w fun y w' => y = .returned (.tuple #[.int .i64 (f : Int), .agg #[.int .i32 sr, .int .i64 (sn : Int), .bool sb], .int .i64 0]) ∧ Below w.heap.size w w' := by
  have b0 := (Below.refl w.heap.size w).alloc (Nat.le_refl _) (.cells #[.int .i32 0, .int .i64 0, .bool false] 82)
  have g0 := push_get w (.cells #[.int .i32 0, .int .i64 0, .bool false] 82)
  have d0 : decide ((p : Int) < 0) = false := decide_eq_false (by omega)
  have d1 : decide ((N : Int) ≤ (p : Int)) = false := decide_eq_false (by omega)
  have d2 : decide ((p : Int) ≥ (N : Int)) = false := decide_eq_false (by omega)
  have d3 : decide (N ≤ p) = false := decide_eq_false (by omega)
  clear hp
  go_enter Tryz.func32, Tryz.ntmps32
  go_upto_region 1 with fail
  generalize w.alloc (.cells #[.int .i32 0, .int .i64 0, .bool false] 82) = w0 at *
  go_wp2_with fail
  refine (unhide HLen w0 b0).mono ?_
  rintro y v1 ⟨rfl, x1⟩
  dsimp only
  have X1 := b0.trans (x1.mono b0.size)
  have g1 := bk9_on g0 x1
  clear x1 b0 g0
  go_wp2_with fail
  refine (unhide HLen v1 X1).mono ?_
  rintro y v2 ⟨rfl, x2⟩
  dsimp only
  have X2 := X1.trans (x2.mono X1.size)
  have g2 := bk9_on g1 x2
  clear x2 X1 g1
  go_wp2_with fail
  refine (unhide HFl v2 X2).mono ?_
  rintro y v3 ⟨rfl, x3⟩
  dsimp only
  have X3 := X2.trans (x3.mono X2.size)
  have g3 := bk9_on g2 x3
  clear x3 X2 g2
  go_wp2_with fail
  refine (unhide HLen v3 X3).mono ?_
  rintro y v4 ⟨rfl, x4⟩
  dsimp only
  have X4 := X3.trans (x4.mono X3.size)
  have g4 := bk9_on g3 x4
  clear x4 X3 g3
  go_wp2_with fail
  refine (unhide HSt v4 X4).mono ?_
  rintro y v5 ⟨rfl, x5⟩
  dsimp only
  have X5 := X4.trans (x5.mono X4.size)
  have g5 := bk9_on g4 x5
  obtain ⟨c0, c1, c2, ff⟩ := cells3S g5
  have f0 := ff 0
  have f1 := ff 1
  have f2 := ff 2
  have HF := hide (box3S g5 (.int .i32 sr) (.int .i64 (sn : Int)) (.bool sb))
  have HD := hide (below3S X5 (Nat.le_refl _) (.int .i32 sr) (.int .i64 (sn : Int)) (.bool sb))
  clear ff x5 X4 g4 X5 g5 HLen HFl HSt
  go_wp2_with fail
  obtain ⟨c0, c1, c2, _⟩ := cells3S (unhide HF)
  refine bodyPost_ret (v := .tuple #[.int .i64 (f : Int), .agg #[.int .i32 sr, .int .i64 (sn : Int), .bool sb], .int .i64 0]) (by simp [results, Tryz.results32, go_sem, c0, c1, c2]) rfl ⟨rfl, unhide HD⟩
set_option maxRecDepth 100000 in
set_option maxHeartbeats 4000000 in
theorem StepE10_of (g N : Nat) (p : Int) (w : World)
    (HLen : Hid (∀ X, Below w.heap.size w X → Calls Tryz.prog 18 #[.pointer (some ⟨g, 0, none⟩)] X fun y w' => y = .returned (.int .i64 (N : Int)) ∧ Below X.heap.size X w')) (hp : p < 0 ∨ (N : Int) ≤ p) :
    Calls Tryz.prog 32 #[.pointer (some ⟨g, 0, none⟩), .int .i64 p] w fun y w' => y = .returned (.tuple #[.int .i64 0, .agg #[.int .i32 0, .int .i64 0, .bool false], .int .i64 2]) ∧ Below w.heap.size w w' := by
  have b0 := (Below.refl w.heap.size w).alloc (Nat.le_refl _) (.cells #[.int .i32 0, .int .i64 0, .bool false] 82)
  have g0 := push_get w (.cells #[.int .i32 0, .int .i64 0, .bool false] 82)
  by_cases h0 : p < 0
  · have d0 : decide (p < 0) = true := decide_eq_true h0
    go_enter Tryz.func32, Tryz.ntmps32
    go_upto_region 1 with fail
    generalize w.alloc (.cells #[.int .i32 0, .int .i64 0, .bool false] 82) = w0 at *
    obtain ⟨c0, c1, c2, ff⟩ := cells3S g0
    have f0 := ff 0
    have f1 := ff 1
    have f2 := ff 2
    have HF := hide (box3S g0 (.int .i32 0) (.int .i64 0) (.bool false))
    have HD := hide (below3S b0 (Nat.le_refl _) (.int .i32 0) (.int .i64 0) (.bool false))
    clear ff g0 b0 hp
    go_wp2_with fail
    obtain ⟨c0, c1, c2, _⟩ := cells3S (unhide HF)
    refine bodyPost_ret (v := .tuple #[.int .i64 0, .agg #[.int .i32 0, .int .i64 0, .bool false], .int .i64 2]) (by simp [results, Tryz.results32, go_sem, c0, c1, c2]) rfl ⟨rfl, unhide HD⟩
  · have h1 : (N : Int) ≤ p := by omega
    have d0 : decide (p < 0) = false := decide_eq_false h0
    have d1 : decide ((N : Int) ≤ p) = true := decide_eq_true h1
    have d2 : decide (p ≥ (N : Int)) = true := decide_eq_true h1
    go_enter Tryz.func32, Tryz.ntmps32
    go_upto_region 1 with fail
    generalize w.alloc (.cells #[.int .i32 0, .int .i64 0, .bool false] 82) = w0 at *
    go_wp2_with fail
    refine (unhide HLen w0 b0).mono ?_
    rintro y v1 ⟨rfl, x1⟩
    dsimp only
    have X1 := b0.trans (x1.mono b0.size)
    have g1 := bk9_on g0 x1
    obtain ⟨c0, c1, c2, ff⟩ := cells3S g1
    have f0 := ff 0
    have f1 := ff 1
    have f2 := ff 2
    have HF := hide (box3S g1 (.int .i32 0) (.int .i64 0) (.bool false))
    have HD := hide (below3S X1 (Nat.le_refl _) (.int .i32 0) (.int .i64 0) (.bool false))
    clear ff g0 b0 hp x1 X1 g1
    go_wp2_with fail
    obtain ⟨c0, c1, c2, _⟩ := cells3S (unhide HF)
    refine bodyPost_ret (v := .tuple #[.int .i64 0, .agg #[.int .i32 0, .int .i64 0, .bool false], .int .i64 2]) (by simp [results, Tryz.results32, go_sem, c0, c1, c2]) rfl ⟨rfl, unhide HD⟩
theorem Step10_at (g : Nat) (o : Option Nd) (p : Int) (w : World) (h : IsRo w g o) (hm : (txtO o).length ≤ 268435456) (hW : Wt w) :
    Calls Tryz.prog 32 #[.pointer (some ⟨g, 0, none⟩), .int .i64 p] w fun y w' => y = .returned (stV10 (txtO o) p) ∧ Below w.heap.size w w' := by
  have hb := bytes_of h
  have hLen := fun (X : World) (hx : Below w.heap.size w X) => Len9_at g o X (h.on hx)
  by_cases hp : p < 0 ∨ ((txtO o).length : Int) ≤ p
  · unfold stV10
    rw [if_pos hp]
    exact StepE10_of g _ p w (hide hLen) hp
  · obtain ⟨q, rfl⟩ : ∃ q : Nat, p = (q : Int) := ⟨p.toNat, by omega⟩
    have hf := flr_le (txtO o) q
    unfold stV10
    rw [if_neg hp, Int.toNat_natCast, stp_eq]
    refine Step10_of g (txtO o).length q (flr (txtO o) q) _ _ _ w (hide hLen) (hide fun X hx => floor10_at g o q X (h.on hx) hb (by omega) hm (hW.below hx)) (hide fun X hx => ?_) (by omega)
    have := stepAt10_at g o (flr (txtO o) q) X (h.on hx) (by omega) hm (hW.below hx)
    rw [stp_eq] at this
    exact this

end Go.Proofs.YteamaneompijkaaGreatDoor
end

section
namespace Go.Proofs.YteamaneompijkaaGreatDoor
open Go.ChangeShapes Go.WideShapes Go.ChangeAt Go.RowKit

theorem one_intK {H : Type} {enc : TypeId × Value → H} {P : Program} {W : World} {spare : Nat → Bool} {m : Nat} {t : TypeId} (ht : P.underlying t = some (.int .i64)) {xs : List (DataW H × List MemPlace)} {L : List Value} {i k : Nat} (hi : i < xs.length)
    (h : DataW.trod enc P W 0 spare true m t ((L.drop k).take 1) = xs[i]?) : ∃ n : Int, L[k]? = some (.int .i64 n) ∧ (Lit.int .i64 n).wf = true := by
  rw [List.getElem?_eq_getElem hi] at h
  obtain ⟨n, hn, _, hw⟩ := DataW.trod_int ht h
  refine ⟨n, ?_, hw⟩
  have := congrArg (·[0]?) hn
  simpa [List.getElem?_take, List.getElem?_drop] using this
end Go.Proofs.YteamaneompijkaaGreatDoor
end

section
namespace Go.Proofs.YteamaneompijkaaGreatDoor
open Go.ChangeShapes Go.WideShapes Go.ChangeAt Go.RowKit
attribute [local go_sem] Oper.semAt_some

/-- the document's example, in pieces -/
def ex10 : List (List Int) := [[97, 226], [130, 172, 13], [10, 240, 159], [152, 128]]
def exT10 : List Int := [97, 226, 130, 172, 13, 10, 240, 159, 152, 128]
theorem ex10_flat : ex10.flatten = exT10 := rfl
theorem ex10_to : (toP 1 10 3 3 (EE exT10) : Int) = 6 ∧ toR 1 10 3 3 (EE exT10) = 0 := by decide +kernel
theorem ex10_wh : whV exT10 6 = .tuple #[.agg #[.int .i64 6, .int .i64 4, .int .i64 4, .int .i64 1, .int .i64 0, .int .i64 0, .int .i64 0], .int .i64 0] := by kernel_rfl
/-- bytes in a block of their own -/
theorem row10 {W : World} {g : Nat} {l : List Int} {cs : Array Value} {q : Nat × Nat} (hg : W.heap[g]? = some (.cells cs 5 q)) (hc : ∀ j, j < l.length → cs[j]? = some (.int .u8 (l.getD j 0))) (hl : ∀ x ∈ l, 0 ≤ x ∧ x ≤ 255) (hn : l.length ≤ 1000) : IsN W (some ⟨g, 0, none⟩) l.length l := by
  refine ⟨⟨Nat.le_refl _, by omega, Or.inr ⟨g, 0, rfl, fun j hj => ⟨?_, ?_⟩⟩, hl⟩, fun e => by cases e⟩
  · simp only [World.cell?, hg, Nat.zero_add]
    exact hc j hj
  · have : l.getD j 0 ∈ l := by rw [List.getD_eq_getElem?_getD, List.getElem?_eq_getElem hj]; exact List.getElem_mem hj
    exact hl _ this
theorem ex10_rows (w : World) (o1 o2 o3 o4 o5 : Obj) (h1 : o1 = .cells #[.int .u8 97, .int .u8 226] 5 (2, 3)) (h2 : o2 = .cells #[.int .u8 130, .int .u8 172, .int .u8 13] 5 (3, 4)) (h3 : o3 = .cells #[.int .u8 10, .int .u8 240, .int .u8 159] 5 (3, 4)) (h4 : o4 = .cells #[.int .u8 152, .int .u8 128] 5 (2, 3))
    (h5 : o5 = .cells #[.slice (some ⟨w.heap.size, 0, none⟩) 2 2, .slice (some ⟨w.heap.size + 1, 0, none⟩) 3 3, .slice (some ⟨w.heap.size + 1 + 1, 0, none⟩) 3 3, .slice (some ⟨w.heap.size + 1 + 1 + 1, 0, none⟩) 2 2] 30) :
    IsNN (((((w.alloc o1).alloc o2).alloc o3).alloc o4).alloc o5) (some ⟨w.heap.size + 1 + 1 + 1 + 1, 0, none⟩) ex10 ∧ Below w.heap.size w (((((w.alloc o1).alloc o2).alloc o3).alloc o4).alloc o5) := by
  have b1 : Below w.heap.size w (w.alloc o1) := (Below.refl _ _).alloc (Nat.le_refl _) _
  have b2 : Below (w.alloc o1).heap.size (w.alloc o1) ((w.alloc o1).alloc o2) := (Below.refl _ _).alloc (Nat.le_refl _) _
  have b3 : Below ((w.alloc o1).alloc o2).heap.size ((w.alloc o1).alloc o2) (((w.alloc o1).alloc o2).alloc o3) := (Below.refl _ _).alloc (Nat.le_refl _) _
  have b4 : Below (((w.alloc o1).alloc o2).alloc o3).heap.size (((w.alloc o1).alloc o2).alloc o3) ((((w.alloc o1).alloc o2).alloc o3).alloc o4) := (Below.refl _ _).alloc (Nat.le_refl _) _
  have b5 : Below ((((w.alloc o1).alloc o2).alloc o3).alloc o4).heap.size ((((w.alloc o1).alloc o2).alloc o3).alloc o4) (((((w.alloc o1).alloc o2).alloc o3).alloc o4).alloc o5) := (Below.refl _ _).alloc (Nat.le_refl _) _
  have g1 := bk9_on (bk9_on (bk9_on (bk9_on (push_get w o1) b2) b3) b4) b5
  have g2 := bk9_on (bk9_on (bk9_on (push_get (w.alloc o1) o2) b3) b4) b5
  have g3 := bk9_on (bk9_on (push_get ((w.alloc o1).alloc o2) o3) b4) b5
  have g4 := bk9_on (push_get (((w.alloc o1).alloc o2).alloc o3) o4) b5
  have g5 := push_get ((((w.alloc o1).alloc o2).alloc o3).alloc o4) o5
  have B := (((b1.trans (b2.mono b1.size)).trans (b3.mono (Nat.le_trans b1.size b2.size))).trans (b4.mono (Nat.le_trans (Nat.le_trans b1.size b2.size) b3.size))).trans (b5.mono (Nat.le_trans (Nat.le_trans (Nat.le_trans b1.size b2.size) b3.size) b4.size))
  have zs : (((((w.alloc o1).alloc o2).alloc o3).alloc o4).alloc o5).heap.size = w.heap.size + 1 + 1 + 1 + 1 + 1 := by simp only [World.size_alloc]
  simp only [World.size_alloc] at g2 g3 g4 g5
  clear b1 b2 b3 b4 b5
  generalize (((((w.alloc o1).alloc o2).alloc o3).alloc o4).alloc o5) = W at *
  subst h1 h2 h3 h4 h5
  refine ⟨Or.inr ⟨_, 0, rfl, by omega, fun r hr => ?_⟩, B⟩
  have hr4 : r < 4 := hr
  have hcell : ∀ j, W.cell? ⟨w.heap.size + 1 + 1 + 1 + 1, 0 + j, none⟩ = (#[Value.slice (some ⟨w.heap.size, 0, none⟩) 2 2, .slice (some ⟨w.heap.size + 1, 0, none⟩) 3 3, .slice (some ⟨w.heap.size + 1 + 1, 0, none⟩) 3 3, .slice (some ⟨w.heap.size + 1 + 1 + 1, 0, none⟩) 2 2] : Array Value)[j]? := fun j => by
    simp only [World.cell?, g5, Nat.zero_add]
    rfl
  rcases (by omega : r = 0 ∨ r = 1 ∨ r = 2 ∨ r = 3) with rfl | rfl | rfl | rfl
  · exact ⟨_, _, hcell 0, row10 (l := [97, 226]) g1 (fun j hj => by have : j < 2 := hj; rcases (by omega : j = 0 ∨ j = 1) with rfl | rfl <;> rfl) (by decide) (by decide)⟩
  · exact ⟨_, _, hcell 1, row10 (l := [130, 172, 13]) g2 (fun j hj => by have : j < 3 := hj; rcases (by omega : j = 0 ∨ j = 1 ∨ j = 2) with rfl | rfl | rfl <;> rfl) (by decide) (by decide)⟩
  · exact ⟨_, _, hcell 2, row10 (l := [10, 240, 159]) g3 (fun j hj => by have : j < 3 := hj; rcases (by omega : j = 0 ∨ j = 1 ∨ j = 2) with rfl | rfl | rfl <;> rfl) (by decide) (by decide)⟩
  · exact ⟨_, _, hcell 3, row10 (l := [152, 128]) g4 (fun j hj => by have : j < 2 := hj; rcases (by omega : j = 0 ∨ j = 1) with rfl | rfl <;> rfl) (by decide) (by decide)⟩
theorem conv10 (w : World) (C : Array Value) (n : Nat) : (convert 30 30 (.slice (some ⟨w.heap.size, 0, none⟩) n n)).run Tryz.prog (w.alloc (.cells C 5)) = .ok (.slice (some ⟨w.heap.size, 0, none⟩) n n) (w.alloc (.cells C 5 (C.size, C.size + 1))) :=
  Lib.run_convert_bytes_const w 30 5 C n n Tryz.underlying30 Tryz.underlying5
set_option maxRecDepth 100000 in
set_option maxHeartbeats 4000000 in
theorem awake10_at (w : World) (hW : Wt w) : Calls Tryz.prog 6 #[] w fun y w' => y = .returned (.bool true) ∧ Below w.heap.size w w' := by
  have HW := hide fun (X : World) (hx : Below w.heap.size w X) => hW.below hx
  clear hW
  have c1 := conv10 w #[.int .u8 97, .int .u8 226] 2
  have c2 := conv10 (w.alloc (.cells #[.int .u8 97, .int .u8 226] 5 (2, 3))) #[.int .u8 130, .int .u8 172, .int .u8 13] 3
  have c3 := conv10 ((w.alloc (.cells #[.int .u8 97, .int .u8 226] 5 (2, 3))).alloc (.cells #[.int .u8 130, .int .u8 172, .int .u8 13] 5 (3, 4))) #[.int .u8 10, .int .u8 240, .int .u8 159] 3
  have c4 := conv10 (((w.alloc (.cells #[.int .u8 97, .int .u8 226] 5 (2, 3))).alloc (.cells #[.int .u8 130, .int .u8 172, .int .u8 13] 5 (3, 4))).alloc (.cells #[.int .u8 10, .int .u8 240, .int .u8 159] 5 (3, 4))) #[.int .u8 152, .int .u8 128] 2
  rw [World.size_alloc] at c2
  rw [World.size_alloc, World.size_alloc] at c3
  rw [World.size_alloc, World.size_alloc, World.size_alloc] at c4
  go_enter Tryz.func6, Tryz.ntmps6
  obtain ⟨hN, b0⟩ := ex10_rows w _ _ _ _ _ rfl rfl rfl rfl rfl
  have HRo := hide (Rope10_at (some ⟨w.heap.size + 1 + 1 + 1 + 1, 0, none⟩) 4 ex10 _ hN (by decide) (by decide) (unhide HW _ b0))
  rw [show ex10.length = 4 from rfl] at HRo
  have HB0 := hide b0
  clear hN b0
  go_wp2_with fail
  refine (unhide HRo).mono ?_
  rintro y w1 ⟨g, o, rfl, hr, ht, x1⟩
  dsimp only
  rw [ex10_flat] at ht
  have X1 := (unhide HB0).trans (x1.mono (unhide HB0).size)
  have hl : (txtO o).length ≤ 268435456 := by rw [ht]; decide
  have hT := To10_at g o 1 10 3 3 w1 hr hl (unhide HW w1 X1) rfl (fun X _ h => absurd rfl h)
  rw [ht, ex10_to.1, ex10_to.2] at hT
  have HT := hide hT
  have HR := hide hr
  have HX := hide (And.intro ht hl)
  clear c1 c2 c3 c4 hT HRo HB0 x1 hr ht hl
  go_wp2_with fail
  refine (unhide HT).mono ?_
  rintro y w2 ⟨rfl, x2⟩
  dsimp only
  have X2 := X1.trans (x2.mono X1.size)
  have hWh := Where10_at g o 6 w2 ((unhide HR).on x2) (unhide HX).2 (unhide HW w2 X2)
  rw [(unhide HX).1, ex10_wh] at hWh
  have HWh := hide hWh
  clear hWh HT HR HX x2 X1
  go_wp2_with fail
  refine (unhide HWh).mono ?_
  rintro y w3 ⟨rfl, x3⟩
  dsimp only
  have X3 := X2.trans (x3.mono X2.size)
  clear HWh x3 X2
  have b3 := (Below.refl w3.heap.size w3).alloc (Nat.le_refl _) (.cells #[.int .i64 6, .int .i64 4, .int .i64 4, .int .i64 1, .int .i64 0, .int .i64 0, .int .i64 0] 61)
  have HB := hide (X3.trans (b3.mono X3.size))
  clear b3 X3
  go_wp2_with fail
  go_ret
  exact ⟨rfl, unhide HB⟩
set_option maxRecDepth 100000 in
theorem eqW10 (w : World) : (binOp .eql 61 (.agg #[.int .i64 0, .int .i64 0, .int .i64 0, .int .i64 0, .int .i64 0, .int .i64 0, .int .i64 0]) (.agg #[.int .i64 0, .int .i64 0, .int .i64 0, .int .i64 0, .int .i64 0, .int .i64 0, .int .i64 0])).run Tryz.prog w = .ok (.bool true) w := by kernel_rfl
set_option maxRecDepth 100000 in
theorem eqS10 (w : World) : (binOp .eql 82 (.agg #[.int .i32 0, .int .i64 0, .bool false]) (.agg #[.int .i32 0, .int .i64 0, .bool false])).run Tryz.prog w = .ok (.bool true) w := by kernel_rfl
attribute [local go_sem] eqW10 eqS10
end Go.Proofs.YteamaneompijkaaGreatDoor
end

section
namespace Go.Proofs.YteamaneompijkaaGreatDoor
open Go.ChangeShapes Go.WideShapes Go.ChangeAt Go.RowKit
attribute [local go_sem] Oper.semAt_some
/-- the first edge at or behind p -/
structure AtI (T : List Int) (p at' : Nat) : Prop where
  le : p ≤ at'
  len : at' ≤ T.length
  ed : inside T at' = false
  ins : ∀ q, p ≤ q → q < at' → inside T q = true
theorem AtI.start (T : List Int) : AtI T 0 0 := ⟨Nat.le_refl _, Nat.zero_le _, inside0 T, fun q h1 h2 => by omega⟩
end Go.Proofs.YteamaneompijkaaGreatDoor
end

section
namespace Go.Proofs.YteamaneompijkaaGreatDoor
open Go.ChangeShapes Go.WideShapes Go.ChangeAt Go.RowKit
attribute [local go_sem] Oper.semAt_some
def OwnS (w : World) (B : Nat) (v : Value) (vs : List Value) : Prop := w.ownsRow B 30 1 v vs.length vs
/-- slices that read as byte strings -/
def RowsV (X : World) (vs : List Value) (ls : List (List Int)) : Prop := vs.length = ls.length ∧ ∀ k, k < ls.length → ∃ A C, vs[k]? = some (.slice A (ls.getD k []).length C) ∧ IsN X A C (ls.getD k [])
theorem RowsV.on {X Y : World} {vs : List Value} {ls : List (List Int)} (h : RowsV X vs ls) (hb : Below X.heap.size X Y) : RowsV Y vs ls :=
  ⟨h.1, fun k hk => by obtain ⟨A, C, h1, h2⟩ := h.2 k hk; exact ⟨A, C, h1, h2.below hb (Nat.le_refl _)⟩⟩
theorem OwnS.nn {W : World} {B : Nat} {v : Value} {vs : List Value} {ls : List (List Int)} (h : OwnS W B v vs) (hr : RowsV W vs ls) : ∃ a c, v = .slice a ls.length c ∧ IsNN W a ls := by
  have hc := h
  rcases h.2 with ⟨rfl, h0⟩ | ⟨g, cap, cur, rfl, _, hg, hle, _⟩
  · have : ls = [] := List.length_eq_zero_iff.1 (by rw [← hr.1]; exact h0)
    subst this
    exact ⟨none, 0, by simp, .inl rfl⟩
  · refine ⟨_, cap, by rw [← hr.1], .inr ⟨g, 0, rfl, (Array.getElem?_eq_some_iff.1 hg).1, fun k hk => ?_⟩⟩
    obtain ⟨A, C, h1, h2⟩ := hr.2 k hk
    refine ⟨A, C, ?_, h2⟩
    have := World.ownsRow.cells hc rfl k _ h1
    rwa [Addr.add_lit] at this
theorem OwnS.on {W Y : World} {B : Nat} {v : Value} {vs : List Value} (h : OwnS W B v vs) (hb : Below W.heap.size W Y) : OwnS Y B v vs := by
  rcases h with ⟨h1, h2⟩
  refine ⟨h1, ?_⟩
  rcases h2 with h2 | ⟨g, cap, cur, e, hB, hg, r⟩
  · exact .inl h2
  · exact .inr ⟨g, cap, cur, e, hB, bk9_on hg hb, r⟩
end Go.Proofs.YteamaneompijkaaGreatDoor
end
