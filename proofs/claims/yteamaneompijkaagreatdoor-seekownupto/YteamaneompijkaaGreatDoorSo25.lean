/- Layer 5: told, Valid. -/
import Derived.Test.YteamaneompijkaaGreatDoorSo24
import Derived.Test.YteamaneompijkaaGreatDoorSo05
import Derived.Test.YteamaneompijkaaGreatDoorSo10
namespace Go.Proofs.YteamaneompijkaaGreatDoor
open Go.ChangeShapes Go.WideShapes Go.ChangeAt Go.RowKit
set_option maxRecDepth 100000
set_option maxHeartbeats 8000000
theorem str_app (a b : List Int) : strOfNums a ++ strOfNums b = strOfNums (a ++ b) := by
  unfold strOfNums
  apply ByteArray.ext
  simp [ByteArray.data_append]
theorem toBytes (W : World) (l : List Int) (hl : ∀ x ∈ l, 0 ≤ x ∧ x ≤ 255) (hn : l.length ≤ 140737488351232) :
    ∃ c W', (convert 9 30 (.string (strOfNums l))).run Tryz.prog W = .ok (.slice (some ⟨W.heap.size, 0, none⟩) l.length c) W' ∧ IsN W' (some ⟨W.heap.size, 0, none⟩) c l ∧ Below W.heap.size W W' ∧ W.heap.size < W'.heap.size := by
  have := run_bytes_of_string (P := Tryz.prog) W 9 30 5 (strOfNums l) Tryz.underlying9 Tryz.underlying30 Tryz.underlying5
  rw [strOfNums_size] at this
  have hge := grownCap_ge W l.length 0 5
  refine ⟨_, _, this, ⟨IsB.of (fun i hi => ⟨?_, ?_⟩) hge hn, fun e => by cases e⟩, ((Below.refl W.heap.size W).drew).alloc (Nat.le_refl _) _, by rw [World.size_alloc]; exact Nat.lt_succ_self _⟩
  · rw [Nat.zero_add]
    refine (World.cell?_alloc_mark W.drew _ 5 _ i).trans ?_
    have hb := hl _ (List.getElem_mem hi)
    unfold bytesRow
    rw [Array.getElem?_append_left (by rw [Array.size_map]; show i < (strOfNums l).size; rw [strOfNums_size]; exact hi)]
    simp [strOfNums, List.getElem?_eq_getElem hi, List.getD]
    omega
  · have := hl _ (List.getElem_mem hi)
    simpa [List.getD, List.getElem?_eq_getElem hi] using this
def toldL (n : Nat) (h t : List Int) : List Int := h ++ t.drop (t.length - (n - h.length))
theorem toldW_at (n : Nat) (r u e : Int) (h t : List Int) (w : World) (hh : ∀ x ∈ h, 0 ≤ x ∧ x ≤ 255) (ht : ∀ x ∈ t, 0 ≤ x ∧ x ≤ 255) (h3 : h.length ≤ 3) (t3 : t.length ≤ 3) (hn : h.length ≤ n) (hb : n - h.length ≤ t.length) :
    Calls Tryz.prog 153 #[.agg #[.int .i64 (n : Int), .int .i64 r, .int .i64 u, .int .i64 e, .string (strOfNums h), .string (strOfNums t)]] w fun x w' => ∃ a c, x = .returned (.slice a (toldL n h t).length c) ∧ IsN w' a c (toldL n h t) ∧ Below w.heap.size w w' := by
  have b0 : Below w.heap.size w (w.alloc (.cells #[.int .i64 (n : Int), .int .i64 r, .int .i64 u, .int .i64 e, .string (strOfNums h), .string (strOfNums t)] 47)) := (Below.refl _ _).alloc (Nat.le_refl _) _
  have g0 := push_get w (.cells #[.int .i64 (n : Int), .int .i64 r, .int .i64 u, .int .i64 e, .string (strOfNums h), .string (strOfNums t)] 47)
  obtain ⟨c0, _, _, _, c4, c5, _⟩ := cells6 g0
  have z0 : w.heap.size < (w.alloc (.cells #[.int .i64 (n : Int), .int .i64 r, .int .i64 u, .int .i64 e, .string (strOfNums h), .string (strOfNums t)] 47)).heap.size := by simp
  obtain ⟨k, hk⟩ : ∃ k, k = n - h.length := ⟨_, rfl⟩
  obtain ⟨q, hq⟩ : ∃ q, q = t.length - k := ⟨_, rfl⟩
  have hsh : (strOfNums h).size = h.length := strOfNums_size h
  have hst : (strOfNums t).size = t.length := strOfNums_size t
  have hki : (n : Int) - (h.length : Int) = (k : Int) := by omega
  have hqi : (t.length : Int) - (k : Int) = (q : Int) := by omega
  have hqt : (q : Int) ≤ (t.length : Int) := by omega
  have hwq : IntKind.i64.wrap (q : Int) = (q : Int) := by rw [IntKind.wrap_i64]; omega
  have hwk : IntKind.i64.wrap (k : Int) = (k : Int) := by rw [IntKind.wrap_i64]; omega
  have hex : (strOfNums t).extract q t.length = strOfNums (t.drop q) := by rw [str_extract, List.take_of_length_le (by simp)]
  have hap := str_app h (t.drop q)
  have hcat : ¬ 9223372036854775807 < h.length + (strOfNums (t.drop q)).size := by rw [strOfNums_size]; simp; omega
  have htl : toldL n h t = h ++ t.drop q := by unfold toldL; rw [hq, hk]
  have hbyt : ∀ x ∈ h ++ t.drop q, 0 ≤ x ∧ x ≤ 255 := fun x hx => by
    rcases List.mem_append.1 hx with hx | hx
    · exact hh x hx
    · exact ht x (List.mem_of_mem_drop hx)
  have hlen : (h ++ t.drop q).length ≤ 6 := by simp; omega
  rw [htl]
  clear htl
  have HBY := hide hbyt
  clear hbyt hk hq
  go_enter Tryz.func153, Tryz.ntmps153
  go_upto_region 2 with fail
  have HS0 : Hid ((w.alloc (.cells #[.int .i64 (n : Int), .int .i64 r, .int .i64 u, .int .i64 e, .string (strOfNums h), .string (strOfNums t)] 47)).drew.cell? ⟨w.heap.size, 4, none⟩ = some (.string (strOfNums h)) ∧ (w.alloc (.cells #[.int .i64 (n : Int), .int .i64 r, .int .i64 u, .int .i64 e, .string (strOfNums h), .string (strOfNums t)] 47)).drew.cell? ⟨w.heap.size, 5, none⟩ = some (.string (strOfNums t))) := hide ⟨c4, c5⟩
  have b1 : Below w.heap.size w (w.alloc (.cells #[.int .i64 (n : Int), .int .i64 r, .int .i64 u, .int .i64 e, .string (strOfNums h), .string (strOfNums t)] 47)).drew := Below.drewN b0 1
  clear c0 c4 c5 g0 b0
  refine regionL (S := fun w' => w'.cell? ⟨w.heap.size, 4, none⟩ = some (.string (strOfNums h)) ∧ w'.cell? ⟨w.heap.size, 5, none⟩ = some (.string (strOfNums t))) (fun i => i == 11 || i == 12) (by kernel_rfl) ?_
  generalize (w.alloc (.cells #[.int .i64 (n : Int), .int .i64 r, .int .i64 u, .int .i64 e, .string (strOfNums h), .string (strOfNums t)] 47)).drew = wd at *
  refine anyL_take (i := 0) (v := ?v0) rfl (by kernel_rfl) (by kernel_rfl) (by kernel_rfl) (by kernel_rfl) (fun _ _ _ h => h) (Or.inl ⟨by rfl, ?h0⟩) (unhide HS0) ?_
  case h0 => (intro w hSw; (try dsimp only at hSw); go_simp) <;> with_reducible rfl
  simp only [Act.put, List.getElem_toArray, List.getElem_cons_zero, List.setIfInBounds_toArray, List.set_cons_zero, List.set_cons_succ]
  refine anyL_take (i := 1) (v := ?v1) rfl (by kernel_rfl) (by kernel_rfl) (by kernel_rfl) (by kernel_rfl) (fun _ _ _ h => h) (Or.inl ⟨by rfl, ?h1⟩) (unhide HS0) ?_
  case h1 => (intro w hSw; (try dsimp only at hSw); go_simp) <;> with_reducible rfl
  simp only [Act.put, List.getElem_toArray, List.getElem_cons_zero, List.getElem_cons_succ, List.setIfInBounds_toArray, List.set_cons_zero, List.set_cons_succ]
  refine anyL_take (i := 2) (v := ?v2) rfl (by kernel_rfl) (by kernel_rfl) (by kernel_rfl) (by kernel_rfl) (fun _ _ _ h => h) (Or.inl ⟨by rfl, ?h2⟩) (unhide HS0) ?_
  case h2 => (intro w hSw; (try dsimp only at hSw); go_simp) <;> with_reducible rfl
  simp only [Act.put, List.getElem_toArray, List.getElem_cons_zero, List.getElem_cons_succ, List.setIfInBounds_toArray, List.set_cons_zero, List.set_cons_succ]
  refine anyL_take (i := 3) (v := ?v3) rfl (by kernel_rfl) (by kernel_rfl) (by kernel_rfl) (by kernel_rfl) (fun _ _ _ h => h) (Or.inl ⟨by rfl, ?h3⟩) (unhide HS0) ?_
  case h3 => (intro w hSw; (try dsimp only at hSw); go_simp) <;> with_reducible rfl
  simp only [Act.put, List.getElem_toArray, List.getElem_cons_zero, List.getElem_cons_succ, List.setIfInBounds_toArray, List.set_cons_zero, List.set_cons_succ]
  refine anyL_take (i := 4) (v := ?v4) rfl (by kernel_rfl) (by kernel_rfl) (by kernel_rfl) (by kernel_rfl) (fun _ _ _ h => h) (Or.inl ⟨by rfl, ?h4⟩) (unhide HS0) ?_
  case h4 => (intro w hSw; (try dsimp only at hSw); go_simp) <;> with_reducible rfl
  simp only [Act.put, List.getElem_toArray, List.getElem_cons_zero, List.getElem_cons_succ, List.setIfInBounds_toArray, List.set_cons_zero, List.set_cons_succ]
  refine anyL_take (i := 5) (v := ?v5) rfl (by kernel_rfl) (by kernel_rfl) (by kernel_rfl) (by kernel_rfl) (fun _ _ _ h => h) (Or.inl ⟨by rfl, ?h5⟩) (unhide HS0) ?_
  case h5 => (intro w hSw; (try dsimp only at hSw); go_simp) <;> with_reducible rfl
  simp only [Act.put, List.getElem_toArray, List.getElem_cons_zero, List.getElem_cons_succ, List.setIfInBounds_toArray, List.set_cons_zero, List.set_cons_succ]
  refine anyL_take (i := 6) (v := ?v6) rfl (by kernel_rfl) (by kernel_rfl) (by kernel_rfl) (by kernel_rfl) (fun _ _ _ h => h) (Or.inl ⟨by rfl, ?h6⟩) (unhide HS0) ?_
  case h6 => (intro w hSw; (try dsimp only at hSw); go_simp) <;> with_reducible rfl
  simp only [Act.put, List.getElem_toArray, List.getElem_cons_zero, List.getElem_cons_succ, List.setIfInBounds_toArray, List.set_cons_zero, List.set_cons_succ]
  refine anyL_take (i := 7) (v := ?v7) rfl (by kernel_rfl) (by kernel_rfl) (by kernel_rfl) (by kernel_rfl) (fun _ _ _ h => h) (Or.inl ⟨by rfl, ?h7⟩) (unhide HS0) ?_
  case h7 => (intro w hSw; (try dsimp only at hSw); go_simp) <;> with_reducible rfl
  simp only [Act.put, List.getElem_toArray, List.getElem_cons_zero, List.getElem_cons_succ, List.setIfInBounds_toArray, List.set_cons_zero, List.set_cons_succ]
  refine anyL_take (i := 8) (v := ?v8) rfl (by kernel_rfl) (by kernel_rfl) (by kernel_rfl) (by kernel_rfl) (fun _ _ _ h => h) (Or.inl ⟨by rfl, ?h8⟩) (unhide HS0) ?_
  case h8 => (intro w hSw; (try dsimp only at hSw); go_simp) <;> with_reducible rfl
  simp only [Act.put, List.getElem_toArray, List.getElem_cons_zero, List.getElem_cons_succ, List.setIfInBounds_toArray, List.set_cons_zero, List.set_cons_succ]
  refine anyL_take (i := 9) (v := ?v9) rfl (by kernel_rfl) (by kernel_rfl) (by kernel_rfl) (by kernel_rfl) (fun _ _ _ h => h) (Or.inl ⟨by rfl, ?h9⟩) (unhide HS0) ?_
  case h9 => (intro w hSw; (try dsimp only at hSw); go_simp) <;> with_reducible rfl
  simp only [Act.put, List.getElem_toArray, List.getElem_cons_zero, List.getElem_cons_succ, List.setIfInBounds_toArray, List.set_cons_zero, List.set_cons_succ]
  refine anyL_take (i := 10) (v := ?v10) rfl (by kernel_rfl) (by kernel_rfl) (by kernel_rfl) (by kernel_rfl) (fun _ _ _ h => h) (Or.inl ⟨by rfl, ?h10⟩) (unhide HS0) ?_
  case h10 => (intro w hSw; (try dsimp only at hSw); go_simp) <;> with_reducible rfl
  simp only [Act.put, List.getElem_toArray, List.getElem_cons_zero, List.getElem_cons_succ, List.setIfInBounds_toArray, List.set_cons_zero, List.set_cons_succ]
  have hwd := b1.size
  obtain ⟨c2, w2, r2, i2, b2, _⟩ := toBytes wd (h ++ t.drop q) (unhide HBY) (by omega)
  have HI2 := hide i2
  have bb2 : Below w.heap.size w w2 := b1.trans (b2.mono hwd)
  clear i2
  refine anyL_ready (rs := [11]) (by kernel_rfl) (by simp) ?_
  refine AllL.cons rfl (fun K hK => ?_) AllL.nil
  go_simp
  refine unhide hK _ _ (fun h => absurd h (by decide)) ?_
  clear hK K
  refine anyL_ready (rs := [12]) (by kernel_rfl) (by simp) ?_
  refine AllL.cons rfl (fun K hK => ?_) AllL.nil
  go_simp
  refine unhide hK _ _ (fun h => absurd h (by decide)) ?_
  clear hK K
  refine anyL_done (by kernel_rfl) ?_ _
  go_wp2_with fail
  go_ret
  exact ⟨_, _, by simp, unhide HI2, bb2⟩
theorem bytesOf_inj : ∀ {a b : List Int}, (∀ x ∈ a, 0 ≤ x ∧ x ≤ 255) → (∀ x ∈ b, 0 ≤ x ∧ x ≤ 255) → Lib.bytesOf a = Lib.bytesOf b → a = b
  | [], [], _, _, _ => rfl
  | [], _ :: _, _, _, h => by simp [Lib.bytesOf] at h
  | _ :: _, [], _, _, h => by simp [Lib.bytesOf] at h
  | x :: a, y :: b, ha, hb, h => by
    simp only [Lib.bytesOf, List.map_cons, List.cons.injEq] at h
    have h1 := ha x (List.mem_cons_self ..)
    have h2 := hb y (List.mem_cons_self ..)
    have e := u8_eq h1 y.toNat (by omega)
    rw [e] at h
    have ih := bytesOf_inj (fun z hz => ha z (List.mem_cons_of_mem _ hz)) (fun z hz => hb z (List.mem_cons_of_mem _ hz)) h.2
    rw [ih, h.1]
    congr 1
    omega
theorem str_eq {a b : List Int} (ha : ∀ x ∈ a, 0 ≤ x ∧ x ≤ 255) (hb : ∀ x ∈ b, 0 ≤ x ∧ x ≤ 255) : ((strOfNums a).toList = (strOfNums b).toList) = (a = b) := by
  rw [Lib.strOfNums_toList, Lib.strOfNums_toList]
  exact propext ⟨fun h => bytesOf_inj ha hb h, fun h => by rw [h]⟩
structure Byw (x : We) : Prop where
  h : ∀ y ∈ x.h, 0 ≤ y ∧ y ≤ 255
  t : ∀ y ∈ x.t, 0 ≤ y ∧ y ≤ 255
theorem byw_of {l : List Int} (h : ∀ x ∈ l, 0 ≤ x ∧ x ≤ 255) : Byw (ofL l) := ⟨fun y hy => h y (List.mem_of_mem_take hy), fun y hy => h y (List.mem_of_mem_drop hy)⟩
theorem we_ifs {α : Type} (x y : We) (hx : Byw x) (hy : Byw y) (T F : α) : (if x.z.b = y.z.b then if x.z.r = y.z.r then if x.z.u = y.z.u then if x.z.e = y.z.e then if (strOfNums x.h).toList = (strOfNums y.h).toList then if (strOfNums x.t).toList = (strOfNums y.t).toList then T else F else F else F else F else F else F) = if x = y then T else F := by
  simp only [str_eq hx.h hy.h, str_eq hx.t hy.t]
  obtain ⟨⟨b, r, u, e⟩, h, t⟩ := x
  obtain ⟨⟨b', r', u', e'⟩, h', t'⟩ := y
  simp only [We.mk.injEq, Sz.mk.injEq]
  repeat' split
  all_goals first | rfl | (exfalso; simp_all)
def validB (x : We) : Bool :=
  if x.z.b < 0 ∨ 268435456 < x.z.b then false
  else if (x.h.length : Int) ≠ min x.z.b 3 ∨ (x.t.length : Int) ≠ min x.z.b 3 then false
  else if x.z.b ≤ 6 then decide (x = ofL (toldL x.z.b.toNat x.h x.t)) else mayB x.z
theorem ValidW_few (n : Nat) (r u e : Int) (h t : List Int) (w : World) (hW : Wt w) (hh : ∀ x ∈ h, 0 ≤ x ∧ x ≤ 255) (ht : ∀ x ∈ t, 0 ≤ x ∧ x ≤ 255) (hn : n ≤ 6) (lh : h.length = min n 3) (lt : t.length = min n 3) :
    Calls Tryz.prog 147 #[.agg #[.int .i64 (n : Int), .int .i64 r, .int .i64 u, .int .i64 e, .string (strOfNums h), .string (strOfNums t)]] w fun x w' => x = .returned (.bool (decide ((⟨⟨(n : Int), r, u, e⟩, h, t⟩ : We) = ofL (toldL n h t)))) ∧ Below w.heap.size w w' := by
  have b0 : Below w.heap.size w (w.alloc (.cells #[.int .i64 (n : Int), .int .i64 r, .int .i64 u, .int .i64 e, .string (strOfNums h), .string (strOfNums t)] 47)) := (Below.refl _ _).alloc (Nat.le_refl _) _
  have g0 := push_get w (.cells #[.int .i64 (n : Int), .int .i64 r, .int .i64 u, .int .i64 e, .string (strOfNums h), .string (strOfNums t)] 47)
  obtain ⟨c0, c1, c2, c3, c4, c5, _⟩ := cells6 g0
  have q1 : ¬ ((n : Int) < 0) := by omega
  have q2 : ¬ ((268435456 : Int) < (n : Int)) := by omega
  have q3 : (n : Int) ≤ 6 := by omega
  have TL : Hid (∀ W, Calls Tryz.prog 153 #[.agg #[.int .i64 (n : Int), .int .i64 r, .int .i64 u, .int .i64 e, .string (strOfNums h), .string (strOfNums t)]] W fun x w' => ∃ a c, x = .returned (.slice a (toldL n h t).length c) ∧ IsN w' a c (toldL n h t) ∧ Below W.heap.size W w') := hide (fun W => toldW_at n r u e h t W hh ht (by omega) (by omega) (by omega) (by omega))
  have HTL : Hid ((toldL n h t).length ≤ 6) := hide (by unfold toldL; simp; omega)
  have B0 := hide b0
  have G0 := hide g0
  have HH := hide hh
  have HTT := hide ht
  have HWW := hide hW
  clear b0 g0 hh ht hW
  go_enter Tryz.func147, Tryz.ntmps147
  rcases Nat.lt_or_ge n 4 with hc | hc
  · have q4 : (n : Int) ≤ 3 := by omega
    obtain rfl : n = h.length := by omega
    have lt' : t.length = h.length := by omega
    have hsh : (strOfNums h).size = h.length := strOfNums_size h
    have hst : (strOfNums t).size = h.length := (strOfNums_size t).trans lt'
    have hmin : min (h.length : Int) 3 = (h.length : Int) := by omega
    clear lh lt hn hc lt'
    go_upto_region 8 with fail
    have HS0 : Hid ((w.alloc (.cells #[.int .i64 (h.length : Int), .int .i64 r, .int .i64 u, .int .i64 e, .string (strOfNums h), .string (strOfNums t)] 47)).drew.cell? ⟨w.heap.size, 0, none⟩ = some (.int .i64 (h.length : Int)) ∧ (w.alloc (.cells #[.int .i64 (h.length : Int), .int .i64 r, .int .i64 u, .int .i64 e, .string (strOfNums h), .string (strOfNums t)] 47)).drew.cell? ⟨w.heap.size, 1, none⟩ = some (.int .i64 r) ∧ (w.alloc (.cells #[.int .i64 (h.length : Int), .int .i64 r, .int .i64 u, .int .i64 e, .string (strOfNums h), .string (strOfNums t)] 47)).drew.cell? ⟨w.heap.size, 2, none⟩ = some (.int .i64 u) ∧ (w.alloc (.cells #[.int .i64 (h.length : Int), .int .i64 r, .int .i64 u, .int .i64 e, .string (strOfNums h), .string (strOfNums t)] 47)).drew.cell? ⟨w.heap.size, 3, none⟩ = some (.int .i64 e) ∧ (w.alloc (.cells #[.int .i64 (h.length : Int), .int .i64 r, .int .i64 u, .int .i64 e, .string (strOfNums h), .string (strOfNums t)] 47)).drew.cell? ⟨w.heap.size, 4, none⟩ = some (.string (strOfNums h)) ∧ (w.alloc (.cells #[.int .i64 (h.length : Int), .int .i64 r, .int .i64 u, .int .i64 e, .string (strOfNums h), .string (strOfNums t)] 47)).drew.cell? ⟨w.heap.size, 5, none⟩ = some (.string (strOfNums t))) := hide ⟨c0, c1, c2, c3, c4, c5⟩
    have b1 : Below w.heap.size w (w.alloc (.cells #[.int .i64 (h.length : Int), .int .i64 r, .int .i64 u, .int .i64 e, .string (strOfNums h), .string (strOfNums t)] 47)).drew := Below.drewN (unhide B0) 1
    have z1 : w.heap.size < (w.alloc (.cells #[.int .i64 (h.length : Int), .int .i64 r, .int .i64 u, .int .i64 e, .string (strOfNums h), .string (strOfNums t)] 47)).drew.heap.size := by show w.heap.size < (w.alloc (.cells #[.int .i64 (h.length : Int), .int .i64 r, .int .i64 u, .int .i64 e, .string (strOfNums h), .string (strOfNums t)] 47)).heap.size; simp
    clear c0 c1 c2 c3 c4 c5 G0 B0
    refine regionL (S := fun w' => w'.cell? ⟨w.heap.size, 0, none⟩ = some (.int .i64 (h.length : Int)) ∧ w'.cell? ⟨w.heap.size, 1, none⟩ = some (.int .i64 r) ∧ w'.cell? ⟨w.heap.size, 2, none⟩ = some (.int .i64 u) ∧ w'.cell? ⟨w.heap.size, 3, none⟩ = some (.int .i64 e) ∧ w'.cell? ⟨w.heap.size, 4, none⟩ = some (.string (strOfNums h)) ∧ w'.cell? ⟨w.heap.size, 5, none⟩ = some (.string (strOfNums t))) (fun i => i == 5) (by kernel_rfl) ?_
    generalize (w.alloc (.cells #[.int .i64 (h.length : Int), .int .i64 r, .int .i64 u, .int .i64 e, .string (strOfNums h), .string (strOfNums t)] 47)).drew = wd at *
    refine anyL_take (i := 0) (v := ?va0) rfl (by kernel_rfl) (by kernel_rfl) (by kernel_rfl) (by kernel_rfl) (fun _ _ _ h => h) (Or.inl ⟨by rfl, ?gva0⟩) (unhide HS0) ?_
    case gva0 => (intro w hSw; (try dsimp only at hSw); go_simp) <;> with_reducible rfl
    simp only [Act.put, List.getElem_toArray, List.getElem_cons_zero, List.setIfInBounds_toArray, List.set_cons_zero, List.set_cons_succ]
    refine anyL_take (i := 1) (v := ?va1) rfl (by kernel_rfl) (by kernel_rfl) (by kernel_rfl) (by kernel_rfl) (fun _ _ _ h => h) (Or.inl ⟨by rfl, ?gva1⟩) (unhide HS0) ?_
    case gva1 => (intro w hSw; (try dsimp only at hSw); go_simp) <;> with_reducible rfl
    simp only [Act.put, List.getElem_toArray, List.getElem_cons_zero, List.getElem_cons_succ, List.setIfInBounds_toArray, List.set_cons_zero, List.set_cons_succ]
    refine anyL_ready (rs := [2]) (by kernel_rfl) (by simp) ?_
    refine AllL.cons rfl (fun K hK => ?_) AllL.nil
    go_simp
    refine (unhide TL wd).mono ?_
    rintro x w2 ⟨a, c, rfl, i2, b2⟩
    have HS2 : Hid (w2.cell? ⟨w.heap.size, 0, none⟩ = some (.int .i64 (h.length : Int)) ∧ w2.cell? ⟨w.heap.size, 1, none⟩ = some (.int .i64 r) ∧ w2.cell? ⟨w.heap.size, 2, none⟩ = some (.int .i64 u) ∧ w2.cell? ⟨w.heap.size, 3, none⟩ = some (.int .i64 e) ∧ w2.cell? ⟨w.heap.size, 4, none⟩ = some (.string (strOfNums h)) ∧ w2.cell? ⟨w.heap.size, 5, none⟩ = some (.string (strOfNums t))) := hide ⟨(b2.cell (p := ⟨w.heap.size, 0, none⟩) z1).trans (unhide HS0).1, (b2.cell (p := ⟨w.heap.size, 1, none⟩) z1).trans (unhide HS0).2.1, (b2.cell (p := ⟨w.heap.size, 2, none⟩) z1).trans (unhide HS0).2.2.1, (b2.cell (p := ⟨w.heap.size, 3, none⟩) z1).trans (unhide HS0).2.2.2.1, (b2.cell (p := ⟨w.heap.size, 4, none⟩) z1).trans (unhide HS0).2.2.2.2.1, (b2.cell (p := ⟨w.heap.size, 5, none⟩) z1).trans (unhide HS0).2.2.2.2.2⟩
    have bb2 := b1.trans (b2.mono b1.size)
    have z2 := b2.size
    try dsimp only
    refine unhide hK _ _ (fun _ => unhide HS2) ?_
    clear hK K
    refine anyL_ready (rs := [3]) (by kernel_rfl) (by simp) ?_
    refine AllL.cons rfl (fun K hK => ?_) AllL.nil
    go_simp
    refine (Of_at a c (toldL h.length h t) w2 i2 (by have := unhide HTL; omega) ((unhide HWW).below bb2)).mono ?_
    unfold weV
    rintro x w3 ⟨rfl, b3⟩
    have z12 : w.heap.size < w2.heap.size := by omega
    have HS3 : Hid (w3.cell? ⟨w.heap.size, 0, none⟩ = some (.int .i64 (h.length : Int)) ∧ w3.cell? ⟨w.heap.size, 1, none⟩ = some (.int .i64 r) ∧ w3.cell? ⟨w.heap.size, 2, none⟩ = some (.int .i64 u) ∧ w3.cell? ⟨w.heap.size, 3, none⟩ = some (.int .i64 e) ∧ w3.cell? ⟨w.heap.size, 4, none⟩ = some (.string (strOfNums h)) ∧ w3.cell? ⟨w.heap.size, 5, none⟩ = some (.string (strOfNums t))) := hide ⟨(b3.cell (p := ⟨w.heap.size, 0, none⟩) z12).trans (unhide HS2).1, (b3.cell (p := ⟨w.heap.size, 1, none⟩) z12).trans (unhide HS2).2.1, (b3.cell (p := ⟨w.heap.size, 2, none⟩) z12).trans (unhide HS2).2.2.1, (b3.cell (p := ⟨w.heap.size, 3, none⟩) z12).trans (unhide HS2).2.2.2.1, (b3.cell (p := ⟨w.heap.size, 4, none⟩) z12).trans (unhide HS2).2.2.2.2.1, (b3.cell (p := ⟨w.heap.size, 5, none⟩) z12).trans (unhide HS2).2.2.2.2.2⟩
    have bb3 := bb2.trans (b3.mono bb2.size)
    try dsimp only
    refine unhide hK _ _ (fun _ => unhide HS3) ?_
    clear hK K
    refine anyL_take (i := 4) (v := .bool (decide ((⟨⟨(h.length : Int), r, u, e⟩, h, t⟩ : We) = ofL (toldL h.length h t)))) rfl (by kernel_rfl) (by kernel_rfl) (by kernel_rfl) (by kernel_rfl) (fun _ _ _ h => h) (Or.inl ⟨by rfl, ?gva4⟩) (unhide HS3) ?_
    case gva4 =>
      intro w hSw
      go_simp
      refine (we_ifs (⟨⟨(h.length : Int), r, u, e⟩, h, t⟩ : We) (ofL (toldL h.length h t)) ⟨unhide HH, unhide HTT⟩ (byw_of i2.1.2.2.2) _ _).trans ?_
      by_cases hxy : (⟨⟨(h.length : Int), r, u, e⟩, h, t⟩ : We) = ofL (toldL h.length h t)
      · rw [if_pos hxy, decide_eq_true hxy]
      · rw [if_neg hxy, decide_eq_false hxy]
    simp only [Act.put, List.getElem_toArray, List.getElem_cons_zero, List.getElem_cons_succ, List.setIfInBounds_toArray, List.set_cons_zero, List.set_cons_succ]
    refine anyL_ready (rs := [5]) (by kernel_rfl) (by simp) ?_
    refine AllL.cons rfl (fun K hK => ?_) AllL.nil
    go_simp
    refine unhide hK _ _ (fun h => absurd h (by decide)) ?_
    clear hK K
    refine anyL_done (by kernel_rfl) ?_ _
    go_wp2_with fail
    go_ret
    exact ⟨rfl, bb3⟩
  · have q4 : ¬ ((n : Int) ≤ 3) := by omega
    have hsh : (strOfNums h).size = 3 := (strOfNums_size h).trans (by omega)
    have hst : (strOfNums t).size = 3 := (strOfNums_size t).trans (by omega)
    have hmin : min (n : Int) 3 = 3 := by omega
    clear lh lt hn hc
    go_upto_region 8 with fail
    have HS0 : Hid ((w.alloc (.cells #[.int .i64 (n : Int), .int .i64 r, .int .i64 u, .int .i64 e, .string (strOfNums h), .string (strOfNums t)] 47)).drew.cell? ⟨w.heap.size, 0, none⟩ = some (.int .i64 (n : Int)) ∧ (w.alloc (.cells #[.int .i64 (n : Int), .int .i64 r, .int .i64 u, .int .i64 e, .string (strOfNums h), .string (strOfNums t)] 47)).drew.cell? ⟨w.heap.size, 1, none⟩ = some (.int .i64 r) ∧ (w.alloc (.cells #[.int .i64 (n : Int), .int .i64 r, .int .i64 u, .int .i64 e, .string (strOfNums h), .string (strOfNums t)] 47)).drew.cell? ⟨w.heap.size, 2, none⟩ = some (.int .i64 u) ∧ (w.alloc (.cells #[.int .i64 (n : Int), .int .i64 r, .int .i64 u, .int .i64 e, .string (strOfNums h), .string (strOfNums t)] 47)).drew.cell? ⟨w.heap.size, 3, none⟩ = some (.int .i64 e) ∧ (w.alloc (.cells #[.int .i64 (n : Int), .int .i64 r, .int .i64 u, .int .i64 e, .string (strOfNums h), .string (strOfNums t)] 47)).drew.cell? ⟨w.heap.size, 4, none⟩ = some (.string (strOfNums h)) ∧ (w.alloc (.cells #[.int .i64 (n : Int), .int .i64 r, .int .i64 u, .int .i64 e, .string (strOfNums h), .string (strOfNums t)] 47)).drew.cell? ⟨w.heap.size, 5, none⟩ = some (.string (strOfNums t))) := hide ⟨c0, c1, c2, c3, c4, c5⟩
    have b1 : Below w.heap.size w (w.alloc (.cells #[.int .i64 (n : Int), .int .i64 r, .int .i64 u, .int .i64 e, .string (strOfNums h), .string (strOfNums t)] 47)).drew := Below.drewN (unhide B0) 1
    have z1 : w.heap.size < (w.alloc (.cells #[.int .i64 (n : Int), .int .i64 r, .int .i64 u, .int .i64 e, .string (strOfNums h), .string (strOfNums t)] 47)).drew.heap.size := by show w.heap.size < (w.alloc (.cells #[.int .i64 (n : Int), .int .i64 r, .int .i64 u, .int .i64 e, .string (strOfNums h), .string (strOfNums t)] 47)).heap.size; simp
    clear c0 c1 c2 c3 c4 c5 G0 B0
    refine regionL (S := fun w' => w'.cell? ⟨w.heap.size, 0, none⟩ = some (.int .i64 (n : Int)) ∧ w'.cell? ⟨w.heap.size, 1, none⟩ = some (.int .i64 r) ∧ w'.cell? ⟨w.heap.size, 2, none⟩ = some (.int .i64 u) ∧ w'.cell? ⟨w.heap.size, 3, none⟩ = some (.int .i64 e) ∧ w'.cell? ⟨w.heap.size, 4, none⟩ = some (.string (strOfNums h)) ∧ w'.cell? ⟨w.heap.size, 5, none⟩ = some (.string (strOfNums t))) (fun i => i == 5) (by kernel_rfl) ?_
    generalize (w.alloc (.cells #[.int .i64 (n : Int), .int .i64 r, .int .i64 u, .int .i64 e, .string (strOfNums h), .string (strOfNums t)] 47)).drew = wd at *
    refine anyL_take (i := 0) (v := ?vb0) rfl (by kernel_rfl) (by kernel_rfl) (by kernel_rfl) (by kernel_rfl) (fun _ _ _ h => h) (Or.inl ⟨by rfl, ?gvb0⟩) (unhide HS0) ?_
    case gvb0 => (intro w hSw; (try dsimp only at hSw); go_simp) <;> with_reducible rfl
    simp only [Act.put, List.getElem_toArray, List.getElem_cons_zero, List.setIfInBounds_toArray, List.set_cons_zero, List.set_cons_succ]
    refine anyL_take (i := 1) (v := ?vb1) rfl (by kernel_rfl) (by kernel_rfl) (by kernel_rfl) (by kernel_rfl) (fun _ _ _ h => h) (Or.inl ⟨by rfl, ?gvb1⟩) (unhide HS0) ?_
    case gvb1 => (intro w hSw; (try dsimp only at hSw); go_simp) <;> with_reducible rfl
    simp only [Act.put, List.getElem_toArray, List.getElem_cons_zero, List.getElem_cons_succ, List.setIfInBounds_toArray, List.set_cons_zero, List.set_cons_succ]
    refine anyL_ready (rs := [2]) (by kernel_rfl) (by simp) ?_
    refine AllL.cons rfl (fun K hK => ?_) AllL.nil
    go_simp
    refine (unhide TL wd).mono ?_
    rintro x w2 ⟨a, c, rfl, i2, b2⟩
    have HS2 : Hid (w2.cell? ⟨w.heap.size, 0, none⟩ = some (.int .i64 (n : Int)) ∧ w2.cell? ⟨w.heap.size, 1, none⟩ = some (.int .i64 r) ∧ w2.cell? ⟨w.heap.size, 2, none⟩ = some (.int .i64 u) ∧ w2.cell? ⟨w.heap.size, 3, none⟩ = some (.int .i64 e) ∧ w2.cell? ⟨w.heap.size, 4, none⟩ = some (.string (strOfNums h)) ∧ w2.cell? ⟨w.heap.size, 5, none⟩ = some (.string (strOfNums t))) := hide ⟨(b2.cell (p := ⟨w.heap.size, 0, none⟩) z1).trans (unhide HS0).1, (b2.cell (p := ⟨w.heap.size, 1, none⟩) z1).trans (unhide HS0).2.1, (b2.cell (p := ⟨w.heap.size, 2, none⟩) z1).trans (unhide HS0).2.2.1, (b2.cell (p := ⟨w.heap.size, 3, none⟩) z1).trans (unhide HS0).2.2.2.1, (b2.cell (p := ⟨w.heap.size, 4, none⟩) z1).trans (unhide HS0).2.2.2.2.1, (b2.cell (p := ⟨w.heap.size, 5, none⟩) z1).trans (unhide HS0).2.2.2.2.2⟩
    have bb2 := b1.trans (b2.mono b1.size)
    have z2 := b2.size
    try dsimp only
    refine unhide hK _ _ (fun _ => unhide HS2) ?_
    clear hK K
    refine anyL_ready (rs := [3]) (by kernel_rfl) (by simp) ?_
    refine AllL.cons rfl (fun K hK => ?_) AllL.nil
    go_simp
    refine (Of_at a c (toldL n h t) w2 i2 (by have := unhide HTL; omega) ((unhide HWW).below bb2)).mono ?_
    unfold weV
    rintro x w3 ⟨rfl, b3⟩
    have z12 : w.heap.size < w2.heap.size := by omega
    have HS3 : Hid (w3.cell? ⟨w.heap.size, 0, none⟩ = some (.int .i64 (n : Int)) ∧ w3.cell? ⟨w.heap.size, 1, none⟩ = some (.int .i64 r) ∧ w3.cell? ⟨w.heap.size, 2, none⟩ = some (.int .i64 u) ∧ w3.cell? ⟨w.heap.size, 3, none⟩ = some (.int .i64 e) ∧ w3.cell? ⟨w.heap.size, 4, none⟩ = some (.string (strOfNums h)) ∧ w3.cell? ⟨w.heap.size, 5, none⟩ = some (.string (strOfNums t))) := hide ⟨(b3.cell (p := ⟨w.heap.size, 0, none⟩) z12).trans (unhide HS2).1, (b3.cell (p := ⟨w.heap.size, 1, none⟩) z12).trans (unhide HS2).2.1, (b3.cell (p := ⟨w.heap.size, 2, none⟩) z12).trans (unhide HS2).2.2.1, (b3.cell (p := ⟨w.heap.size, 3, none⟩) z12).trans (unhide HS2).2.2.2.1, (b3.cell (p := ⟨w.heap.size, 4, none⟩) z12).trans (unhide HS2).2.2.2.2.1, (b3.cell (p := ⟨w.heap.size, 5, none⟩) z12).trans (unhide HS2).2.2.2.2.2⟩
    have bb3 := bb2.trans (b3.mono bb2.size)
    try dsimp only
    refine unhide hK _ _ (fun _ => unhide HS3) ?_
    clear hK K
    refine anyL_take (i := 4) (v := .bool (decide ((⟨⟨(n : Int), r, u, e⟩, h, t⟩ : We) = ofL (toldL n h t)))) rfl (by kernel_rfl) (by kernel_rfl) (by kernel_rfl) (by kernel_rfl) (fun _ _ _ h => h) (Or.inl ⟨by rfl, ?gvb4⟩) (unhide HS3) ?_
    case gvb4 =>
      intro w hSw
      go_simp
      refine (we_ifs (⟨⟨(n : Int), r, u, e⟩, h, t⟩ : We) (ofL (toldL n h t)) ⟨unhide HH, unhide HTT⟩ (byw_of i2.1.2.2.2) _ _).trans ?_
      by_cases hxy : (⟨⟨(n : Int), r, u, e⟩, h, t⟩ : We) = ofL (toldL n h t)
      · rw [if_pos hxy, decide_eq_true hxy]
      · rw [if_neg hxy, decide_eq_false hxy]
    simp only [Act.put, List.getElem_toArray, List.getElem_cons_zero, List.getElem_cons_succ, List.setIfInBounds_toArray, List.set_cons_zero, List.set_cons_succ]
    refine anyL_ready (rs := [5]) (by kernel_rfl) (by simp) ?_
    refine AllL.cons rfl (fun K hK => ?_) AllL.nil
    go_simp
    refine unhide hK _ _ (fun h => absurd h (by decide)) ?_
    clear hK K
    refine anyL_done (by kernel_rfl) ?_ _
    go_wp2_with fail
    go_ret
    exact ⟨rfl, bb3⟩
end Go.Proofs.YteamaneompijkaaGreatDoor
