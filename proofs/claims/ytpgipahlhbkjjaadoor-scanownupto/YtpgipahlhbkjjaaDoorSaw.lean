/- galleylaw04.awake. -/
import Derived.Test.YtpgipahlhbkjjaaDoorSce
import Derived.Lib.SlBytesConst
namespace Go.Proofs.YtpgipahlhbkjjaaDoor
open Go.ChangeShapes Go.WideShapes Go.ChangeAt Go.RowKit

/-- a list of steps in memory -/
def TrisAt (W : World) (a : Option Addr) (ts : List Tri) : Prop := ts = [] ∨ ∃ g, a = some ⟨g, 0, none⟩ ∧ g < W.heap.size ∧ ∀ k, k < ts.length →
  W.cell? ⟨g, k * 3, none⟩ = some (.int .i32 (ts.getD k badT).1) ∧ W.cell? ⟨g, k * 3 + 1, none⟩ = some (.int .i64 ((ts.getD k badT).2.1 : Int)) ∧ W.cell? ⟨g, k * 3 + 2, none⟩ = some (.bool (ts.getD k badT).2.2)
theorem tcs_get : ∀ (ts : List Tri) (k j : Nat), k < ts.length → j < 3 → (tcs ts)[k * 3 + j]? = (tc (ts.getD k badT))[j]?
  | [], k, _, hk, _ => absurd hk (by simp)
  | t :: ts, 0, j, _, hj => by
    rw [tcs, List.flatMap_cons, Nat.zero_mul, Nat.zero_add, List.getElem?_append_left (by simpa [tc] using hj)]; rfl
  | t :: ts, k + 1, j, hk, hj => by
    have ih := tcs_get ts k j (by simpa using hk) hj
    rw [tcs, List.flatMap_cons, List.getElem?_append_right (by simp [tc]; omega), show (k + 1) * 3 + j - (tc t).length = k * 3 + j by simp [tc]; omega]
    simpa [tcs] using ih
theorem RT.at {B : Nat} {v : Value} {ts : List Tri} {W : World} (h : RT B v ts W) : ∃ a cap, v = .slice a ts.length cap ∧ ts.length ≤ cap ∧ TrisAt W a ts ∧ ∀ x, a = some x → B ≤ x.block ∧ x.block < W.heap.size := by
  rcases h.2 with ⟨rfl, h0⟩ | ⟨g, cap, cur, rfl, hB, hg, hle, hm, hs, ht⟩
  · rw [h0]; exact ⟨none, 0, rfl, Nat.le_refl _, Or.inl (List.length_eq_zero_iff.1 h0), fun x hx => by cases hx⟩
  · have hgl : g < W.heap.size := (Array.getElem?_eq_some_iff.1 hg).1
    refine ⟨_, cap, rfl, hle, Or.inr ⟨g, rfl, hgl, fun k hk => ?_⟩, fun x hx => by cases hx; exact ⟨hB, hgl⟩⟩
    have key : ∀ j, j < 3 → W.cell? ⟨g, k * 3 + j, none⟩ = (tc (ts.getD k badT))[j]? := fun j hj => by
      have e := tcs_get ts k j hk hj
      rw [← e, ← ht, List.getElem?_take_of_lt (by omega)]
      simp only [World.cell?, hg]
      simp
    exact ⟨key 0 (by omega), key 1 (by omega), key 2 (by omega)⟩
theorem TrisAt.same {W W' : World} {a : Option Addr} {ts : List Tri} (h : TrisAt W a ts) (hz : W.heap.size ≤ W'.heap.size) (hb : ∀ x, a = some x → W'.heap[x.block]? = W.heap[x.block]?) : TrisAt W' a ts := by
  rcases h with h | ⟨g, rfl, hg, hc⟩
  · exact Or.inl h
  · have c : ∀ o, W'.cell? ⟨g, o, none⟩ = W.cell? ⟨g, o, none⟩ := fun o => World.cell?_of_block (a := ⟨g, o, none⟩) (hb ⟨g, 0, none⟩ rfl)
    exact Or.inr ⟨g, rfl, by omega, fun k hk => by rw [c, c, c]; exact hc k hk⟩
theorem TrisAt.below {W W' : World} {a : Option Addr} {ts : List Tri} (h : TrisAt W a ts) (hb : Below W.heap.size W W') : TrisAt W' a ts := by
  rcases h with h | ⟨g, rfl, hg, hc⟩
  · exact Or.inl h
  · exact TrisAt.same (Or.inr ⟨g, rfl, hg, hc⟩) hb.size fun x hx => by cases hx; exact hb.block g hg
theorem lit_isB (w : World) (l : List Int) (m : Nat × Nat) (hl : ∀ x ∈ l, 0 ≤ x ∧ x ≤ 255) (h : l.length ≤ 1000) : IsB (w.alloc (.cells (l.map (Value.int .u8)).toArray 5 m)) (some ⟨w.heap.size, 0, none⟩) l.length l :=
  IsB.of (lies_new w l m hl) (Nat.le_refl _) (by omega)
theorem conv_lit (w : World) (C : Array Value) (n : Nat) : (convert 26 26 (.slice (some ⟨w.heap.size, 0, none⟩) n n)).run Tryd.prog (w.alloc (.cells C 5)) = .ok (.slice (some ⟨w.heap.size, 0, none⟩) n n) (w.alloc (.cells C 5 (C.size, C.size + 1))) :=
  Lib.run_convert_bytes_const w 26 5 C n n Tryd.underlying26 Tryd.underlying5
theorem scan_a : scanS [] [65, 226] = ([(65, 1, true)], [226]) := by decide
theorem scan_b : scanS [226] [130, 172] = ([(8364, 3, true)], []) := by decide
theorem hel_226 : Hel [226] := Or.inr (by decide)

set_option maxHeartbeats 2000000 in
theorem awake4_any (w : World) (hT : Tab w) :
    Calls Tryd.prog 5 #[] w fun e w' => e = .returned (.bool true) ∧ Below w.heap.size w w' := by
  have HT := hide hT
  have hz := hT.size
  clear hT
  go_enter Tryd.func5, Tryd.ntmps5
  go_wp2_with fail
  refine (New_at w).mono ?_
  rintro e w1 ⟨g, rfl, hg, s1, b1⟩
  have HS := hide s1
  have hgz := s1.lt
  clear s1
  dsimp only
  have hcv := conv_lit w1 #[.int .u8 65, .int .u8 226] 2
  go_wp2_with fail
  clear hcv
  have ba : Below w1.heap.size w1 (w1.alloc (.cells #[.int .u8 65, .int .u8 226] 5 (2, 3))) := (Below.refl _ _).alloc (Nat.le_refl _) _
  have za : (w1.alloc (.cells #[.int .u8 65, .int .u8 226] 5 (2, 3))).heap.size = w1.heap.size + 1 := by simp
  have HI : Hid (IsB (w1.alloc (.cells #[.int .u8 65, .int .u8 226] 5 (2, 3))) (some ⟨w1.heap.size, 0, none⟩) 2 [65, 226]) := hide (lit_isB w1 [65, 226] (2, 3) (by decide) (by decide))
  have HSa := hide ((unhide HS).below ba hgz)
  have HTa := hide (((unhide HT).below b1 hz).below ba (by omega))
  have HBa := hide (b1.trans (ba.mono b1.size))
  generalize (w1.alloc (.cells #[.int .u8 65, .int .u8 226] 5 (2, 3))) = wa at *
  refine (Feed_at g [] [65, 226] 0 (some ⟨w1.heap.size, 0, none⟩) 2 wa (unhide HSa) (Or.inl rfl) (unhide HTa) (unhide HI) (fun a ha => by cases ha; exact ⟨by rw [za]; show w1.heap.size < _; omega, by show w1.heap.size ≠ g; omega⟩) (by decide) (by decide) (by decide)).mono ?_
  rintro e w2 ⟨v2, rfl, r2, s2, f2⟩
  rw [scan_a] at r2 s2
  have HB2 := hide (((unhide HBa).trans ((f2.mono (by omega)).below hg)))
  have HT2 := hide ((unhide HTa).scf f2 (by omega) (by omega))
  have hz2 := f2.size
  have HR2 := hide r2
  have HS2 := hide s2
  clear r2 s2 HSa HTa HBa HI HS f2 ba
  dsimp only
  have hcv := conv_lit w2 #[.int .u8 130, .int .u8 172] 2
  go_wp2_with fail
  clear hcv
  have bb : Below w2.heap.size w2 (w2.alloc (.cells #[.int .u8 130, .int .u8 172] 5 (2, 3))) := (Below.refl _ _).alloc (Nat.le_refl _) _
  have zb : (w2.alloc (.cells #[.int .u8 130, .int .u8 172] 5 (2, 3))).heap.size = w2.heap.size + 1 := by simp
  have HI : Hid (IsB (w2.alloc (.cells #[.int .u8 130, .int .u8 172] 5 (2, 3))) (some ⟨w2.heap.size, 0, none⟩) 2 [130, 172]) := hide (lit_isB w2 [130, 172] (2, 3) (by decide) (by decide))
  have HSb := hide ((unhide HS2).below bb (by omega))
  have HTb := hide ((unhide HT2).below bb (by omega))
  have HBb := hide ((unhide HB2).trans (bb.mono (by omega)))
  have HRb := hide ((unhide HR2).below bb)
  generalize (w2.alloc (.cells #[.int .u8 130, .int .u8 172] 5 (2, 3))) = wb at *
  refine (Feed_at g [226] [130, 172] 2 (some ⟨w2.heap.size, 0, none⟩) 2 wb (unhide HSb) hel_226 (unhide HTb) (unhide HI) (fun a ha => by cases ha; exact ⟨by rw [zb]; show w2.heap.size < _; omega, by show w2.heap.size ≠ g; omega⟩) (by decide) (by decide) (by decide)).mono ?_
  rintro e w3 ⟨v3, rfl, r3, s3, f3⟩
  rw [scan_b] at r3 s3
  have HB3 := hide (((unhide HBb).trans ((f3.mono (by omega)).below hg)))
  have hz3 := f3.size
  have HR3 := hide ((unhide HRb).scf f3 (by omega))
  have HS3 := hide s3
  obtain ⟨a2, c2, rfl, k2, i2, _⟩ := (unhide HR3).at
  obtain ⟨a3, c3, rfl, k3, i3, _⟩ := r3.at
  rcases i2 with i2 | ⟨ga, rfl, hga, i2⟩
  · cases i2
  rcases i3 with i3 | ⟨gb, rfl, hgb, i3⟩
  · cases i3
  obtain ⟨x0, x1, x2⟩ := i2 0 (by simp)
  obtain ⟨y0, y1, y2⟩ := i3 0 (by simp)
  simp at x0 x1 x2 y0 y1 y2 k2 k3
  clear i2 i3 s3 f3 HSb HTb HBb HI HRb HR2 HR3 HS2 HT2 HB2 bb
  dsimp only
  go_wp2_with (first
    | (go_at_call 13; refine (Held_at g [] 4 _ (unhide HS3)).mono ?_; rintro e w4 ⟨rfl, rfl⟩; dsimp only)
    | (go_at_call 14; refine (Place_at g [] 4 _ (unhide HS3) (by decide) (by decide)).mono ?_; rintro e w4 ⟨rfl, n4, rfl⟩; dsimp only))
  go_ret
  exact ⟨rfl, Below.drewN (unhide HB3) n4⟩
end Go.Proofs.YtpgipahlhbkjjaaDoor
