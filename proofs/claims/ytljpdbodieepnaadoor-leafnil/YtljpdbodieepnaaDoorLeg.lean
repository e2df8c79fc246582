/- Layer 8: the contracts of leaf's place, Before, Weld, and of a nil leaf. -/
import Derived.Test.YtljpdbodieepnaaDoorLef
namespace Go.Proofs.YtljpdbodieepnaaDoor
open Go.ChangeShapes Go.WideShapes Go.ChangeAt Go.RowKit
attribute [local go_sem] Oper.semAt_some

def plR (l : List Int) (n : Int) : Int := if n < 0 ∨ (l.length : Int) < n then 2 else 0
set_option maxRecDepth 100000 in
theorem place_at (g : Nat) (l : List Int) (n : Int) (w : World) (h : IsLf w g l) :
    Calls Tryd.prog 33 #[.pointer (some ⟨g, 0, none⟩), .int .i64 n] w fun y w' => y = .returned (.int .i64 (plR l n)) ∧ w' = w := by
  have c := h.text
  have hs := strOfNums_size l
  go_enter Tryd.func33, Tryd.ntmps33
  by_cases h1 : n < 0
  · have HV : Hid (plR l n = 2) := hide (by unfold plR; rw [if_pos (Or.inl h1)])
    have t1 : decide (n < 0) = true := decide_eq_true h1
    go_wp2_with fail
    go_ret
    exact ⟨ret_int (by rw [unhide HV]), rfl⟩
  · have t1 : decide (n < 0) = false := decide_eq_false h1
    by_cases h2 : (l.length : Int) < n
    · have HV : Hid (plR l n = 2) := hide (by unfold plR; rw [if_pos (Or.inr h2)])
      have t2 : decide (n > (l.length : Int)) = true := decide_eq_true (by omega)
      have t3 : decide ((l.length : Int) < n) = true := decide_eq_true h2
      go_wp2_with fail
      go_ret
      exact ⟨ret_int (by rw [unhide HV]), rfl⟩
    · have HV : Hid (plR l n = 0) := hide (by unfold plR; rw [if_neg (by omega)])
      have t2 : decide (n > (l.length : Int)) = false := decide_eq_false (by omega)
      have t3 : decide ((l.length : Int) < n) = false := decide_eq_false h2
      clear h1
      go_wp2_with fail
      go_ret
      exact ⟨ret_int (by rw [unhide HV]), rfl⟩
theorem placeN_at (n : Int) (w : World) : Calls Tryd.prog 33 #[.pointer none, .int .i64 n] w fun y w' => y = .returned (.int .i64 1) ∧ w' = w := by
  go_enter Tryd.func33, Tryd.ntmps33
  go_wp2_with fail
  go_ret
  exact ⟨rfl, rfl⟩

def z6 : Array Value := #[.int .i64 0, .int .i64 0, .int .i64 0, .int .i64 0, .string ⟨#[]⟩, .string ⟨#[]⟩]
set_option maxRecDepth 100000 in
theorem BeforeN_at (n : Int) (w : World) :
    Calls Tryd.prog 21 #[.pointer none, .int .i64 n] w fun y w' => y = .returned (.tuple #[.agg z6, .int .i64 1]) ∧ Below w.heap.size w w' := by
  have b0 := (Below.refl w.heap.size w).alloc (Nat.le_refl _) (.cells z6 40)
  have g0 := push_get w (.cells z6 40)
  unfold z6 at b0 g0
  obtain ⟨c0, c1, c2, c3, c4, c5, f⟩ := cells6 g0
  have f0 := f 0
  have f1 := f 1
  have f2 := f 2
  have f3 := f 3
  have f4 := f 4
  have f5 := f 5
  clear f
  have xf := box6_all g0 (.int .i64 0) (.int .i64 0) (.int .i64 0) (.int .i64 0) (.string ⟨#[]⟩) (.string ⟨#[]⟩)
  have bf := below6 b0 (Nat.le_refl _) (.int .i64 0) (.int .i64 0) (.int .i64 0) (.int .i64 0) (.string ⟨#[]⟩) (.string ⟨#[]⟩)
  go_enter Tryd.func21, Tryd.ntmps21
  go_wp2_with fail
  generalize w.alloc (.cells #[.int .i64 0, .int .i64 0, .int .i64 0, .int .i64 0, .string ⟨#[]⟩, .string ⟨#[]⟩] 40) = w1 at *
  refine (placeN_at n w1).mono ?_
  rintro y w2 ⟨rfl, rfl⟩
  go_wp2_with fail
  generalize ((((((w2.setCell ⟨w.heap.size, 0, none⟩ (.int .i64 0)).setCell ⟨w.heap.size, 1, none⟩ (.int .i64 0)).setCell ⟨w.heap.size, 2, none⟩ (.int .i64 0)).setCell ⟨w.heap.size, 3, none⟩ (.int .i64 0)).setCell ⟨w.heap.size, 4, none⟩ (.string ⟨#[]⟩)).setCell ⟨w.heap.size, 5, none⟩ (.string ⟨#[]⟩)) = wf at *
  obtain ⟨q0, q1, q2, q3, q4, q5, _⟩ := cells6 xf
  refine bodyPost_ret (v := .tuple #[.agg #[.int .i64 0, .int .i64 0, .int .i64 0, .int .i64 0, .string ⟨#[]⟩, .string ⟨#[]⟩], .int .i64 1]) (by simp [results, Tryd.results21, go_sem, q0, q1, q2, q3, q4, q5]) rfl ⟨rfl, bf⟩

set_option maxRecDepth 100000 in
set_option maxHeartbeats 2000000 in
theorem Before_at (g n : Nat) (l : List Int) (w : World) (h : IsLf w g l) (hl : ∀ x ∈ l, 0 ≤ x ∧ x ≤ 255) (h4 : l.length ≤ 4096) (hn : n ≤ l.length) (hW : Wt w) :
    Calls Tryd.prog 21 #[.pointer (some ⟨g, 0, none⟩), .int .i64 (n : Int)] w fun y w' => y = .returned (.tuple #[weV (ofL (l.take n)), .int .i64 0]) ∧ Below w.heap.size w w' := by
  have b0 := (Below.refl w.heap.size w).alloc (Nat.le_refl _) (.cells z6 40)
  have g0 := push_get w (.cells z6 40)
  have k0 := h.on b0
  have W0 := hW.below b0
  unfold z6 at b0 g0 k0 W0
  have z0 : w.heap.size < (w.alloc (.cells #[.int .i64 0, .int .i64 0, .int .i64 0, .int .i64 0, .string ⟨#[]⟩, .string ⟨#[]⟩] 40)).heap.size := by simp
  go_enter Tryd.func21, Tryd.ntmps21
  go_wp2_with fail
  generalize w.alloc (.cells #[.int .i64 0, .int .i64 0, .int .i64 0, .int .i64 0, .string ⟨#[]⟩, .string ⟨#[]⟩] 40) = w1 at *
  have hp := place_at g l (n : Int) w1 k0
  rw [show plR l (n : Int) = 0 by unfold plR; rw [if_neg (by omega)]] at hp
  refine hp.mono ?_
  rintro y w2 ⟨rfl, rfl⟩
  have c := k0.text
  have hs := strOfNums_size l
  have hex : (strOfNums l).extract 0 n = strOfNums (l.take n) := by rw [str_extract]; simp
  have htl : (l.take n).length = n := by simp; omega
  obtain ⟨c3, w3, r3, k3, x3, zz⟩ := toBytes w2 (l.take n) (fun x hx => hl x (List.mem_of_mem_take hx)) (by omega)
  have R3 := r3
  rw [← hex, htl] at R3
  have HTL := hide htl
  have HK := hide k3
  clear hp r3 hex k3
  have b3 := b0.trans (x3.mono b0.size)
  have g3 : w3.heap[w.heap.size]? = _ := (x3.block w.heap.size z0).trans g0
  have hOf := Of_at (some ⟨w2.heap.size, 0, none⟩) c3 (l.take n) w3 (unhide HK) (by omega) (W0.below x3)
  rw [show weV (ofL (l.take n)) = .agg #[.int .i64 (szL (l.take n)).b, .int .i64 (szL (l.take n)).r, .int .i64 (szL (l.take n)).u, .int .i64 (szL (l.take n)).e, .string (strOfNums ((l.take n).take 3)), .string (strOfNums (tail3 (l.take n)))] from rfl] at hOf
  rw [htl] at hOf
  have HO : Hid (weV (ofL (l.take n)) = .agg #[.int .i64 (szL (l.take n)).b, .int .i64 (szL (l.take n)).r, .int .i64 (szL (l.take n)).u, .int .i64 (szL (l.take n)).e, .string (strOfNums ((l.take n).take 3)), .string (strOfNums (tail3 (l.take n)))]) := hide rfl
  generalize strOfNums ((l.take n).take 3) = sh at *
  generalize strOfNums (tail3 (l.take n)) = st at *
  generalize (szL (l.take n)).b = zb at *
  generalize (szL (l.take n)).r = zr at *
  generalize (szL (l.take n)).u = zu at *
  generalize (szL (l.take n)).e = ze at *
  clear htl
  go_wp2_with fail
  refine hOf.mono ?_
  rintro y w4 ⟨rfl, x4⟩
  have b4 := b3.trans (x4.mono b3.size)
  have g4 : w4.heap[w.heap.size]? = _ := (x4.block w.heap.size (Nat.lt_of_lt_of_le z0 x3.size)).trans g3
  obtain ⟨c0, c1, c2, c3', c4, c5, f⟩ := cells6 g4
  have f0 := f 0
  have f1 := f 1
  have f2 := f 2
  have f3 := f 3
  have f4 := f 4
  have f5 := f 5
  clear f hOf hs c R3 zz hl h hW k0 W0 x3 g0 g3 b0 b3 z0 x4 HK HTL hn h4
  have xf := box6_all g4 (.int .i64 zb) (.int .i64 zr) (.int .i64 zu) (.int .i64 ze) (.string sh) (.string st)
  have bf := below6 b4 (Nat.le_refl _) (.int .i64 zb) (.int .i64 zr) (.int .i64 zu) (.int .i64 ze) (.string sh) (.string st)
  go_wp2_with fail
  generalize ((((((w4.setCell ⟨w.heap.size, 0, none⟩ (.int .i64 zb)).setCell ⟨w.heap.size, 1, none⟩ (.int .i64 zr)).setCell ⟨w.heap.size, 2, none⟩ (.int .i64 zu)).setCell ⟨w.heap.size, 3, none⟩ (.int .i64 ze)).setCell ⟨w.heap.size, 4, none⟩ (.string sh)).setCell ⟨w.heap.size, 5, none⟩ (.string st)) = wf at *
  obtain ⟨q0, q1, q2, q3, q4, q5, _⟩ := cells6 xf
  refine bodyPost_ret (v := .tuple #[.agg #[.int .i64 zb, .int .i64 zr, .int .i64 zu, .int .i64 ze, .string sh, .string st], .int .i64 0]) (by simp [results, Tryd.results21, go_sem, q0, q1, q2, q3, q4, q5]) rfl ⟨by rw [unhide HO], bf⟩

set_option maxRecDepth 100000 in
theorem SplitN_at (n : Int) (w : World) :
    Calls Tryd.prog 22 #[.pointer none, .int .i64 n] w fun y w' => y = .returned (.tuple #[.pointer none, .pointer none, .int .i64 1]) ∧ w' = w := by
  go_enter Tryd.func22, Tryd.ntmps22
  go_wp2_with fail
  refine (placeN_at n w).mono ?_
  rintro y w2 ⟨rfl, rfl⟩
  go_wp2_with fail
  refine bodyPost_ret (v := .tuple #[.pointer none, .pointer none, .int .i64 1]) (by simp [results, Tryd.results22, go_sem]) rfl ⟨rfl, rfl⟩
set_option maxRecDepth 100000 in
theorem WeldN_at (w : World) (hW : Wt w) :
    Calls Tryd.prog 15 #[.pointer none] w fun y w' => y = .returned (.agg z6) ∧ Below w.heap.size w w' := by
  have b0 := (Below.refl w.heap.size w).alloc (Nat.le_refl _) (.cells z6 40)
  have g0 := push_get w (.cells z6 40)
  have W0 := hW.below b0
  unfold z6 at b0 g0 W0
  have z0 : w.heap.size < (w.alloc (.cells #[.int .i64 0, .int .i64 0, .int .i64 0, .int .i64 0, .string ⟨#[]⟩, .string ⟨#[]⟩] 40)).heap.size := by simp
  go_enter Tryd.func15, Tryd.ntmps15
  go_wp2_with fail
  generalize w.alloc (.cells #[.int .i64 0, .int .i64 0, .int .i64 0, .int .i64 0, .string ⟨#[]⟩, .string ⟨#[]⟩] 40) = w1 at *
  have hOf := Of_at none 0 [] w1 ⟨⟨Nat.le_refl _, by simp, Or.inl rfl, by simp⟩, fun _ => rfl⟩ (by simp) W0
  rw [show weV (ofL []) = .agg #[.int .i64 0, .int .i64 0, .int .i64 0, .int .i64 0, .string ⟨#[]⟩, .string ⟨#[]⟩] by rfl, show ([] : List Int).length = 0 from rfl] at hOf
  refine hOf.mono ?_
  rintro y w4 ⟨rfl, x4⟩
  have b4 := b0.trans (x4.mono b0.size)
  have g4 : w4.heap[w.heap.size]? = _ := (x4.block w.heap.size z0).trans g0
  obtain ⟨c0, c1, c2, c3, c4, c5, f⟩ := cells6 g4
  have f0 := f 0
  have f1 := f 1
  have f2 := f 2
  have f3 := f 3
  have f4 := f 4
  have f5 := f 5
  clear f hOf
  have xf := box6_all g4 (.int .i64 0) (.int .i64 0) (.int .i64 0) (.int .i64 0) (.string ⟨#[]⟩) (.string ⟨#[]⟩)
  have bf := below6 b4 (Nat.le_refl _) (.int .i64 0) (.int .i64 0) (.int .i64 0) (.int .i64 0) (.string ⟨#[]⟩) (.string ⟨#[]⟩)
  go_wp2_with fail
  generalize ((((((w4.setCell ⟨w.heap.size, 0, none⟩ (.int .i64 0)).setCell ⟨w.heap.size, 1, none⟩ (.int .i64 0)).setCell ⟨w.heap.size, 2, none⟩ (.int .i64 0)).setCell ⟨w.heap.size, 3, none⟩ (.int .i64 0)).setCell ⟨w.heap.size, 4, none⟩ (.string ⟨#[]⟩)).setCell ⟨w.heap.size, 5, none⟩ (.string ⟨#[]⟩)) = wf at *
  obtain ⟨q0, q1, q2, q3, q4, q5, _⟩ := cells6 xf
  refine bodyPost_ret (v := .agg #[.int .i64 0, .int .i64 0, .int .i64 0, .int .i64 0, .string ⟨#[]⟩, .string ⟨#[]⟩]) (by simp [results, Tryd.results15, go_sem, q0, q1, q2, q3, q4, q5]) rfl ⟨rfl, bf⟩

end Go.Proofs.YtljpdbodieepnaaDoor
