/- Contracts of the document's answer: Value, Is and Bytes of layer 1: each answers by the plain functions; Value only draws, Bytes answers in new memory. · Layer 7: the document's Width and Edges (galleyref04), SameInts (Width taken from Rs1: not beside it). · Layer 7, plain: which line a place is in, lines rise; how the modes agree. · Layer 7: the document's Rows. · What stays while a law of layer 7 goes on; Where at an edge. -/
import Derived.Test.YteamaneompijkaaGreatDoorSo06
import Derived.Test.YteamaneompijkaaGreatDoorSo18
import Derived.Test.YteamaneompijkaaGreatDoorSo15
namespace Go.Proofs.YteamaneompijkaaGreatDoor
open Go.ChangeShapes Go.WideShapes Go.ChangeAt Go.RowKit
set_option maxRecDepth 100000
set_option maxHeartbeats 8000000
section
theorem RValue_no (a0 : Option Addr) (cap : Nat) (l : List Int) (w : World) (hm : l.length ≤ maxLen) (hB : Bs w a0 l) (h : whole l = false) :
    Calls Tryz.prog 86 #[.slice a0 l.length cap] w fun e w' => e = .returned (.int .i32 (-1)) ∧ ∃ n, w' = w.drewN n := by
  have hw := RWhole_at a0 cap l w hm hB
  rw [h] at hw
  have HW := hide hw
  clear hw h hB
  unfold maxLen at hm
  generalize l.length = n at *
  go_enter Tryz.func86, Tryz.ntmps86
  go_wp2_with (go_at_call 85; refine (unhide HW).mono ?_; rintro e w' ⟨rfl, n, rfl⟩)
  go_ret
  exact ⟨rfl, _, rfl⟩
theorem len_ways {a : Int} {m : Nat} (h : (m : Int) + 1 = need a) :
    ((m : Int) + 1 == 2) = true ∧ lead a = a % 32 ∨ ((m : Int) + 1 == 2) = false ∧ ((m : Int) + 1 == 3) = true ∧ lead a = a % 16 ∨
    ((m : Int) + 1 == 2) = false ∧ ((m : Int) + 1 == 3) = false ∧ ((m : Int) + 1 == 4) = true ∧ lead a = a % 8 ∨
    ((m : Int) + 1 == 2) = false ∧ ((m : Int) + 1 == 3) = false ∧ ((m : Int) + 1 == 4) = false ∧ lead a = a := by
  simp only [beq_iff_eq, beq_eq_false_iff_ne, h]
  by_cases h2 : need a = 2
  · exact Or.inl ⟨h2, lead_2 h2⟩
  · by_cases h3 : need a = 3
    · exact Or.inr (Or.inl ⟨h2, h3, lead_3 h3⟩)
    · by_cases h4 : need a = 4
      · exact Or.inr (Or.inr (Or.inl ⟨h2, h3, h4, lead_4 h4⟩))
      · exact Or.inr (Or.inr (Or.inr ⟨h2, h3, h4, lead_1 h2 h3 h4⟩))
theorem RValue_yes (g off cap : Nat) (a : Int) (r : List Int) (w : World) (hm : r.length + 1 ≤ maxLen) (hL : Lies w g off (a :: r)) (h : whole (a :: r) = true) :
    Calls Tryz.prog 86 #[.slice (some ⟨g, off, none⟩) (r.length + 1) cap] w fun e w' => e = .returned (.int .i32 (fold (lead a) r)) ∧ ∃ n, w' = w.drewN n := by
  have hw := RWhole_at (some ⟨g, off, none⟩) cap (a :: r) w hm (Or.inr ⟨g, off, rfl, hL⟩)
  rw [h] at hw
  have HW := hide hw
  have hn := whole_need h
  have HN := hide hn
  clear hw h
  obtain ⟨hc, x0, x1⟩ := hL.head
  obtain ⟨f0, f1⟩ := fold_wide x0 hn
  unfold maxLen at hm
  simp only [List.length_cons] at HW
  have hways := len_ways hn
  clear hn
  generalize hlen : r.length = m at *
  have Hlen := hide hlen
  clear hlen
  rcases hways with ⟨e2, hl⟩ | ⟨e2, e3, hl⟩ | ⟨e2, e3, e4, hl⟩ | ⟨e2, e3, e4, hl⟩
  all_goals
    have HLd := hide hl
    clear hl
    go_enter Tryz.func86, Tryz.ntmps86
    go_wp2_with (go_at_call 85; refine (unhide HW).mono ?_; rintro e w' ⟨rfl, n, rfl⟩)
    go_loop [4, 5] (fun v i => ∃ k : Nat, 1 ≤ k ∧ k ≤ m + 1 ∧ i = .int .i64 k ∧ v = .int .i64 (fold (lead a) (r.take (k - 1)))) (fun _ i => m + 1 - (intOf i).toNat)
    case atStart => exact ⟨1, by omega, by omega, rfl, by rw [unhide HLd]; rfl⟩
    case round =>
      obtain ⟨k, hk1, hk, rfl, rfl⟩ := hrel
      by_cases hlt : k < m + 1
      · obtain ⟨hc, y0, y1⟩ := hL k (by simp only [List.length_cons, unhide Hlen]; exact hlt)
        have hx : (a :: r).getD k 0 = r.getD (k - 1) 0 := by
          obtain ⟨j, rfl⟩ : ∃ j, k = j + 1 := ⟨k - 1, by omega⟩
          simp
        rw [hx] at hc y0 y1
        clear hx
        have hft := fold_take (lead a) r (k - 1) (by rw [unhide Hlen]; omega)
        obtain ⟨b0, b1⟩ := fold_small (a := a) (r := r) (by rw [unhide Hlen]; exact unhide HN) (k - 1) (by rw [unhide Hlen]; omega)
        rw [show k - 1 + 1 = k by omega] at hft
        have HFT := hide hft
        clear hft
        generalize hv : fold (lead a) (r.take (k - 1)) = v at b0 b1 ⊢
        have HV := hide hv
        clear hv
        generalize hy : r.getD (k - 1) 0 = y at hc y0 y1
        have HY := hide hy
        clear hy
        go_wp2
        exact ⟨⟨k + 1, by omega, by omega, by go_num, by rw [show k + 1 - 1 = k by omega, unhide HFT, unhide HV, unhide HY]⟩, by simp [intOf]; omega⟩
      · have hall : r.take (k - 1) = r := List.take_of_length_le (by rw [unhide Hlen]; omega)
        rw [hall]
        clear hall
        go_wp2
        go_ret
        exact ⟨rfl, _, rfl⟩
theorem RValue_at (a0 : Option Addr) (cap : Nat) (l : List Int) (w : World) (hm : l.length ≤ maxLen) (hB : Bs w a0 l) :
    Calls Tryz.prog 86 #[.slice a0 l.length cap] w fun e w' => e = .returned (.int .i32 (value l)) ∧ ∃ n, w' = w.drewN n := by
  cases h : whole l with
  | false => rw [value_no h]; exact RValue_no a0 cap l w hm hB h
  | true =>
    match l with
    | [] => cases h
    | a :: r =>
      rcases hB with hn | ⟨g, off, rfl, hL⟩
      · cases hn
      rw [value_yes h]
      exact RValue_yes g off cap a r w hm hL h
end
section
theorem RWhole_is (a0 : Option Addr) (cap n : Nat) (l : List Int) {v : Bool} (w : World) (hn : n = l.length) (hm : l.length ≤ maxLen) (hB : Bs w a0 l) (hv : whole l = v) :
    Calls Tryz.prog 85 #[.slice a0 n cap] w fun e w' => e = .returned (.bool v) ∧ ∃ n, w' = w.drewN n := by
  subst hn hv
  exact RWhole_at a0 cap l w hm hB
theorem wid_cases (a : Int) (r : List Int) : (whole ((a :: r).take (need a).toNat) = true ∧ wid (a :: r) = (need a).toNat ∧ whl (a :: r) = true ∧ (first (a :: r)).1 = value ((a :: r).take (need a).toNat)) ∨
    (whole ((a :: r).take (need a).toNat) = false ∧ wid (a :: r) = 1 ∧ whl (a :: r) = false ∧ (first (a :: r)).1 = 65533) := by
  cases h : whole ((a :: r).take (need a).toNat) with
  | true =>
    have hn : ¬ (need a).toNat = 0 := fun e => by rw [e] at h; cases h
    exact Or.inl ⟨rfl, by simp [wid, first, h], by simp [whl, lng, h, hn], by simp [first, h]⟩
  | false => exact Or.inr ⟨rfl, by simp [wid, first, h], by simp [whl, lng, h], by simp [first, h]⟩
theorem RWidth_at (g off cap p : Nat) (l : List Int) (w : World) (hL : Lies w g off l) (hcap : l.length ≤ cap) (hm : l.length ≤ 140737488351232) (hp : p < l.length) :
    Calls Tryz.prog 84 #[.slice (some ⟨g, off, none⟩) l.length cap, .int .i64 (p : Int)] w fun e w' => e = .returned (.int .i64 (wid (l.drop p) : Nat)) ∧ ∃ n, w' = w.drewN n := by
  obtain ⟨a, r, hd⟩ : ∃ a r, l.drop p = a :: r := by
    cases hd : l.drop p with
    | nil => have := congrArg List.length hd; simp at this; omega
    | cons a r => exact ⟨a, r, rfl⟩
  have hld := hL.drop p
  rw [hd] at hld
  obtain ⟨hc, ha0, ha1⟩ := hld.head
  have hlr : r.length + 1 = l.length - p := by have := congrArg List.length hd; simp at this; omega
  obtain ⟨n, hn⟩ : ∃ n : Nat, need a = n := need_nat a
  have hcp : ¬ cap = p := by omega
  have hpi : (p : Int) < (l.length : Int) := by omega
  have HD := hide hd
  have hn4 := need_hi a
  rw [hd]
  have HW := hide (wid_cases a r)
  rw [hn, show ((n : Nat) : Int).toNat = n from rfl] at HW
  clear hd
  rcases Nat.eq_zero_or_pos n with h0 | h0
  · subst h0
    have hw : wid (a :: r) = 1 := by
      rcases unhide HW with h | h
      · cases h.1
      · exact h.2.1
    rw [hw]
    clear HW
    go_enter Tryz.func84, Tryz.ntmps84
    go_wp2_with (go_at_call 109; refine (RNeed_any _ _ ha0 ha1).mono ?_; rw [hn]; rintro e w' ⟨rfl, rfl⟩; dsimp only)
    go_ret
    exact ⟨rfl, 0, rfl⟩
  · have e1 : decide ((1 : Int) ≤ (n : Int)) = true := decide_eq_true (by omega)
    have e1' : decide ((n : Int) ≥ 1) = true := decide_eq_true (by omega)
    by_cases hle : p + n ≤ l.length
    · have e2 : decide ((p : Int) + (n : Int) ≤ (l.length : Int)) = true := decide_eq_true (by omega)
      have hlt : ((a :: r).take n).length = n := by simp; omega
      have HLd := hide (hld.take n)
      have hgo : p + n ≤ cap := by omega
      cases hwh : whole ((a :: r).take n) with
      | true =>
        have hw : wid (a :: r) = n := by
          rcases unhide HW with h | h
          · exact h.2.1
          · rw [h.1] at hwh; cases hwh
        rw [hw]
        clear HW
        go_enter Tryz.func84, Tryz.ntmps84
        go_wp2_with (first
          | (go_at_call 109; refine (RNeed_any _ _ ha0 ha1).mono ?_; rw [hn]; rintro e w' ⟨rfl, rfl⟩; dsimp only)
          | (go_at_call 85; refine (RWhole_is _ _ _ ((a :: r).take n) _ hlt.symm (by rw [hlt]; unfold maxLen; omega) (Or.inr ⟨_, _, rfl, unhide HLd⟩) hwh).mono ?_; rintro e w' ⟨rfl, nq, rfl⟩; dsimp only))
        go_ret
        exact ⟨rfl, _, rfl⟩
      | false =>
        have hw : wid (a :: r) = 1 := by
          rcases unhide HW with h | h
          · rw [h.1] at hwh; cases hwh
          · exact h.2.1
        rw [hw]
        clear HW
        go_enter Tryz.func84, Tryz.ntmps84
        go_wp2_with (first
          | (go_at_call 109; refine (RNeed_any _ _ ha0 ha1).mono ?_; rw [hn]; rintro e w' ⟨rfl, rfl⟩; dsimp only)
          | (go_at_call 85; refine (RWhole_is _ _ _ ((a :: r).take n) _ hlt.symm (by rw [hlt]; unfold maxLen; omega) (Or.inr ⟨_, _, rfl, unhide HLd⟩) hwh).mono ?_; rintro e w' ⟨rfl, nq, rfl⟩; dsimp only))
        go_ret
        exact ⟨rfl, _, rfl⟩
    · have e2 : decide ((p : Int) + (n : Int) ≤ (l.length : Int)) = false := decide_eq_false (by omega)
      have hw : wid (a :: r) = 1 := by
        rcases unhide HW with h | h
        · have h1 := h.1
          rw [List.take_of_length_le (by simp; omega), whole_len (by omega)] at h1
          cases h1
        · exact h.2.1
      rw [hw]
      clear HW
      go_enter Tryz.func84, Tryz.ntmps84
      go_wp2_with (go_at_call 109; refine (RNeed_any _ _ ha0 ha1).mono ?_; rw [hn]; rintro e w' ⟨rfl, rfl⟩; dsimp only)
      go_ret
      exact ⟨rfl, 0, rfl⟩
def intsN (ps : List Nat) : List Value := ps.map fun (p : Nat) => .int .i64 (p : Int)
theorem intsN_snoc (ps : List Nat) (p : Nat) : intsN (ps ++ [p]) = intsN ps ++ [.int .i64 (p : Int)] := by simp [intsN]
theorem row_belowS {W W' : World} {B k s : Nat} {v : Value} {t : TypeId} {xs : List Value} (h : W.ownsRow B t s v k xs) (hb : Below W.heap.size W W') : W'.ownsRow B t s v k xs := by
  refine ⟨h.1, ?_⟩
  rcases h.2 with h2 | ⟨g', c', cur, h1, h2, h3, h4⟩
  · exact Or.inl h2
  · exact Or.inr ⟨g', c', cur, h1, h2, (hb.block g' (heap_lt h3)).trans h3, h4⟩
theorem spots_lenS (l : List Int) : ∀ (n p : Nat), l.length - p ≤ n → p ≤ l.length → (spots l p).length + p ≤ l.length
  | 0, p, h, hp => by rw [spots_end (by omega)]; simpa using hp
  | n + 1, p, h, hp => by
    by_cases hlt : p < l.length
    · have h1 := wid_pos hlt
      have h2 := wid_len hlt
      have := spots_lenS l n (p + wid (l.drop p)) (by omega) h2
      rw [spots_cons hlt, List.length_cons]
      omega
    · rw [spots_end hlt]; simpa using hp
theorem Edges4_at (a0 : Option Addr) (cap : Nat) (l : List Int) (w : World) (hB : IsB w a0 cap l) (hl : l.length ≤ 1048576) :
    Calls Tryz.prog 58 #[.slice a0 l.length cap] w fun y w' => ∃ v, y = .returned v ∧ w'.ownsRow w.heap.size 3 1 v ((spots l 0).length + 1) (intsN (spots l 0 ++ [l.length])) ∧ Below w.heap.size w w' := by
  have hsl := spots_lenS l l.length 0 (by omega) (Nat.zero_le _)
  go_enter Tryz.func58, Tryz.ntmps58
  go_wp2_with fail
  have o1 : (w.alloc (.cells #[.int .i64 0] 3)).ownsRow w.heap.size 3 1 (.slice (some ⟨w.heap.size, 0, none⟩) 1 1) 1 (intsN ([] ++ [0])) :=
    ⟨rfl, Or.inr ⟨w.heap.size, 1, #[.int .i64 0], rfl, Nat.le_refl _, World.alloc_heap_new w _, by decide, by decide, rfl, rfl⟩⟩
  have b1 := (Below.refl w.heap.size w).alloc (Nat.le_refl _) (.cells #[.int .i64 0] 3)
  generalize w.alloc (.cells #[.int .i64 0] 3) = w1 at *
  go_loopw [3, 4] (fun v i wx => ∃ (p : Nat) (pre : List Nat), p ≤ l.length ∧ i = .int .i64 p ∧ Hid (spots l 0 = pre ++ spots l p) ∧ Hid (wx.ownsRow w.heap.size 3 1 v (pre.length + 1) (intsN (pre ++ [p]))) ∧ Below w.heap.size w wx) (fun _ i _ => l.length - (intOf i).toNat)
  case atStart => exact ⟨0, [], Nat.zero_le _, rfl, hide rfl, hide o1, b1⟩
  case round =>
    obtain ⟨p, pre, hp, rfl, hsp, ho, hb⟩ := hrel
    by_cases hlt : p < l.length
    · have hBx := hB.below hb (Nat.le_refl _)
      obtain ⟨g, off, rfl⟩ := hBx.someB (by omega)
      have hL : Lies wr g off l := by
        rcases hBx.2.2.1 with h3 | ⟨g', off', e, hL⟩
        · rw [h3] at hlt; simp at hlt
        · cases e; exact hL
      have hW := RWidth_at g off cap p l _ hL hBx.1 hBx.2.1 hlt
      have hwl := wid_len hlt
      have hwp := wid_pos hlt
      have hnx : Hid (spots l 0 = (pre ++ [p]) ++ spots l (p + wid (l.drop p))) := hide (by rw [unhide hsp, spots_cons hlt]; simp)
      have hpl : pre.length ≤ l.length := by have := congrArg List.length (unhide hsp); rw [List.length_append] at this; omega
      have hwr : wrap64 ((p : Int) + (wid (l.drop p) : Int)) = ((p + wid (l.drop p) : Nat) : Int) := by rw [wrap_nat _ _ (by omega)]; omega
      clear hBx hL
      generalize wid (l.drop p) = wd at *
      go_wp2_with fail
      refine hW.mono ?_
      rintro e w2 ⟨rfl, hq⟩
      have x3 : Below wr.heap.size wr w2 := quiet_below hq _
      have ho2 := row_belowS (unhide ho) x3
      have hb2 := hb.trans (quiet_below hq w.heap.size)
      obtain ⟨g2, c2, w3, r3, o3, y3⟩ := push_intS w2 w.heap.size _ _ _ ((p + wd : Nat) : Int) 41 ho2 (by omega) hb2.size
      have R3 := hide r3
      clear r3 hW x3 hq
      go_wp2_with (at_builtin; refine wpList_append_known rfl _ _ 41 41 rfl _ _ rfl rfl _ _ (unhide R3) ?_)
      go_roundw
      case rel => exact ⟨p + wd, pre ++ [p], hwl, by go_num, hnx, by rw [List.length_append, List.length_singleton, intsN_snoc]; exact hide o3, hb2.trans y3⟩
      case measure => simp [intOf]; omega
    · obtain rfl : p = l.length := by omega
      have ho' := unhide ho
      have hs := unhide hsp
      rw [spots_end hlt, List.append_nil] at hs
      rw [← hs] at ho'
      clear ho hs
      go_wp2_with fail
      go_ret
      exact ⟨_, rfl, ho', hb⟩
end
section
theorem lst_mono {l : List Int} {i : Nat} : ∀ {j : Nat}, i ≤ j → j < (LN l).length → ((LN l).getD i z4).2.1 ≤ ((LN l).getD j z4).2.1
  | 0, h, _ => by obtain rfl : i = 0 := by omega
                  exact Nat.le_refl _
  | j + 1, h, hj => by
    rcases Nat.lt_or_ge i (j + 1) with h1 | h1
    · have ih := lst_mono (l := l) (i := i) (j := j) (by omega) (by omega)
      obtain ⟨_, _, k⟩ := LN_at l (i := j) (by omega)
      have a1 := k.sc
      have a2 := k.cn
      have a3 := (k.mid hj).2.2.2
      omega
    · obtain rfl : i = j + 1 := by omega
      exact Nat.le_refl _
theorem lst_next {l : List Int} {i j : Nat} (h : i < j) (hj : j < (LN l).length) : ((LN l).getD i z4).2.2.2 ≤ ((LN l).getD j z4).2.1 := by
  obtain ⟨_, _, k⟩ := LN_at l (i := i) (by omega)
  have a3 := (k.mid (by omega)).2.2.2
  have := lst_mono (l := l) (i := i + 1) (j := j) (by omega) hj
  omega
theorem lst_lt {l : List Int} {i : Nat} (h : i + 1 < (LN l).length) : lst ((LN l).getD i z4) < ((LN l).getD i z4).2.2.2 ∧ ((LN l).getD i z4).2.2.1 < ((LN l).getD i z4).2.2.2 := by
  obtain ⟨_, _, k⟩ := LN_at l (i := i) (by omega)
  have a3 := (k.mid h).2.2.1
  have := nxt_gt l ((LN l).getD i z4).2.2.1
  unfold lst
  omega
theorem lnOf_is {l : List Int} {i p : Nat} (hi : i < (LN l).length) (h1 : ((LN l).getD i z4).2.1 ≤ p) (h2 : p ≤ lst ((LN l).getD i z4)) : lnOf l p = (LN l).getD i z4 ∧ (lnOf l p).1 = i := by
  have hp : p ≤ l.length := Nat.le_trans h2 (lst_edge hi).2.2.1
  obtain ⟨j, hj⟩ := ho_of hp
  have hlo := hj.lo
  rw [hj.eq] at hlo
  have hjl := hj.lt
  have : i = j := by
    rcases Nat.lt_trichotomy i j with h | h | h
    · have a := lst_next h hjl
      have b := (lst_lt (l := l) (i := i) (by omega)).1
      omega
    · exact h
    · have a := hj.up (by omega)
      have b := lst_mono (l := l) (i := j + 1) (j := i) (by omega) hi
      omega
  subst this
  exact ⟨hj.eq, by rw [hj.eq]; exact (LN_at l hi).1⟩
end
section
attribute [local go_sem] Oper.semAt_some
def rowsV (E : List Ln) : List Value := E.flatMap fun e => [.int .i64 (e.2.1 : Int), .int .i64 (e.2.2.1 : Int), .int .i64 (e.2.2.2 : Int)]
theorem rowsV_snoc (E : List Ln) (k s c n : Nat) : rowsV (E ++ [(k, s, c, n)]) = rowsV E ++ [.int .i64 (s : Int), .int .i64 (c : Int), .int .i64 (n : Int)] := by simp [rowsV]
theorem rowsV_get : ∀ (E : List Ln) {k : Nat}, k < E.length → (rowsV E)[k * 3]? = some (.int .i64 ((E.getD k z4).2.1 : Int)) ∧ (rowsV E)[k * 3 + 1]? = some (.int .i64 ((E.getD k z4).2.2.1 : Int)) ∧ (rowsV E)[k * 3 + 2]? = some (.int .i64 ((E.getD k z4).2.2.2 : Int))
  | [], k, h => by simp at h
  | e :: E, 0, _ => by simp [rowsV]
  | e :: E, k + 1, h => by
    have ih := rowsV_get E (k := k) (by simpa using h)
    have hr : rowsV (e :: E) = [.int .i64 (e.2.1 : Int), .int .i64 (e.2.2.1 : Int), .int .i64 (e.2.2.2 : Int)] ++ rowsV E := by simp [rowsV]
    rw [hr, show (k + 1) * 3 = k * 3 + 3 by omega]
    simpa using ih
theorem info_row : ∃ i, Tryz.prog.info? 76 = some i ∧ i.zero = some (.agg #[.int .i64 0, .int .i64 0, .int .i64 0]) ∧ i.size = 3 ∧ i.bytes = 24 := by
  refine ⟨_, rfl, ?_, ?_, ?_⟩ <;> rfl
theorem three_nwR (w : World) (a b c : Value) {t : TypeId} : (w.alloc (.cells #[a, b, c] t)).cell? ⟨w.heap.size, 0, none⟩ = some a ∧ (w.alloc (.cells #[a, b, c] t)).cell? ⟨w.heap.size, 1, none⟩ = some b ∧ (w.alloc (.cells #[a, b, c] t)).cell? ⟨w.heap.size, 2, none⟩ = some c := by
  refine ⟨?_, ?_, ?_⟩
  · exact (World.cell?_alloc_mark w #[a, b, c] t (0, 0) 0).trans rfl
  · exact (World.cell?_alloc_mark w #[a, b, c] t (0, 0) 1).trans rfl
  · exact (World.cell?_alloc_mark w #[a, b, c] t (0, 0) 2).trans rfl
theorem push_row (W : World) (B n : Nat) (v : Value) (xs : List Value) (a b c : Int) (ty : TypeId) (h : W.ownsRow B 76 3 v n xs) (hn : n ≤ 4194304) (hB : B ≤ W.heap.size) :
    ∃ g k W', (Builtin.append_ #[125, 125] ty #[v, .slice (some ⟨W.heap.size, 0, none⟩) 1 1]).run Tryz.prog (W.alloc (.cells #[.int .i64 a, .int .i64 b, .int .i64 c] 76)) = .ok (.slice (some ⟨g, 0, none⟩) (n + 1) k) W' ∧
      W'.ownsRow B 76 3 (.slice (some ⟨g, 0, none⟩) (n + 1) k) (n + 1) (xs ++ [.int .i64 a, .int .i64 b, .int .i64 c]) ∧ Below B W W' := by
  obtain ⟨i, hi, hz, hs, hby⟩ := info_row
  have hr := World.ownsRow.alloc h (.cells #[.int .i64 a, .int .i64 b, .int .i64 c] 76)
  obtain ⟨c0, c1, c2⟩ := three_nwR W (.int .i64 a) (.int .i64 b) (.int .i64 c) (t := 76)
  obtain ⟨g, k, W', hrun, ho, hg, _, _⟩ := run_append_lies (P := Tryz.prog) (W.alloc (.cells #[.int .i64 a, .int .i64 b, .int .i64 c] 76)) 125 ty B 76 i (.agg #[.int .i64 0, .int .i64 0, .int .i64 0]) 3 24 Tryz.underlying125 hi hz hs hby rfl (by decide)
    v n xs hr ⟨W.heap.size, 0, none⟩ 1 1 [.int .i64 a, .int .i64 b, .int .i64 c] rfl
    (fun j u hj => by
      match j with
      | 0 => simp at hj; subst hj; rw [Addr.add_lit]; exact c0
      | 1 => simp at hj; subst hj; rw [Addr.add_lit]; exact c1
      | 2 => simp at hj; subst hj; rw [Addr.add_lit]; exact c2
      | j + 3 => simp at hj)
    (fun u hu => by simp at hu; rcases hu with rfl | rfl | rfl <;> rfl) (by decide) (by unfold maxLen; omega) (by omega) (by simp; omega) _ rfl
  exact ⟨g, k, W', hrun, ho, ((Below.refl B W).alloc hB _).grown hg (by simp; omega) (fun k hk => (hr.lt k hk).1)⟩
theorem ctn_isR {l : List Int} {s i : Nat} (h1 : s ≤ i) (h2 : i < l.length) (h3 : isNl (l.getD i 0) = true) (h4 : ∀ j, s ≤ j → j < i → isNl (l.getD j 0) = false) : ctn l s = i := by
  rcases Nat.lt_trichotomy (ctn l s) i with h | h | h
  · have a := ctn_nl (l := l) (s := s) (by omega)
    rw [h4 _ (ctn_le l s) h] at a; cases a
  · exact h
  · have a := ctn_no h1 h (by omega)
    rw [h3] at a; cases a
theorem ctn_endR {l : List Int} {s : Nat} (h4 : ∀ j, s ≤ j → j < l.length → isNl (l.getD j 0) = false) : ¬ ctn l s < l.length := fun h => by
  have a := ctn_nl h
  rw [h4 _ (ctn_le l s) h] at a; cases a
structure RwI (w : World) (l : List Int) (st i : Nat) (pre : List Ln) (v : Value) (X : World) : Prop where
  e : LN l = pre ++ lnR l pre.length st
  n : ∀ j, st ≤ j → j < i → isNl (l.getD j 0) = false
  o : X.ownsRow w.heap.size 76 3 v pre.length (rowsV pre)
theorem Rows_at (a0 : Option Addr) (cap : Nat) (l : List Int) (w : World) (hB : IsB w a0 cap l) (hl : l.length ≤ 1048576) :
    Calls Tryz.prog 60 #[.slice a0 l.length cap] w fun y w' => ∃ v, y = .returned v ∧ w'.ownsRow w.heap.size 76 3 v (LN l).length (rowsV (LN l)) ∧ Below w.heap.size w w' := by
  have HN := LN_len l
  go_enter Tryz.func60, Tryz.ntmps60
  go_wp2_with fail
  go_loopw [3, 4, 5, 6] (fun v s i nx wx => ∃ (st p : Nat) (pre : List Ln), st ≤ p ∧ p ≤ l.length ∧ s = .int .i64 st ∧ i = .int .i64 p ∧ (∃ z, nx = z) ∧ Hid (RwI w l st p pre v wx) ∧ Below w.heap.size w wx) (fun _ _ i _ _ => l.length - (intOf i).toNat)
  case atStart => exact ⟨0, 0, [], Nat.le_refl _, Nat.zero_le _, rfl, rfl, ⟨_, rfl⟩, hide ⟨rfl, fun j _ h => by omega, ⟨rfl, Or.inl ⟨rfl, rfl⟩⟩⟩, Below.refl _ _⟩
  case round =>
    obtain ⟨st, p, pre, hsp, hp, rfl, rfl, ⟨z, rfl⟩, HI, hb⟩ := hrel
    by_cases hlt : p < l.length
    · have t1 := lt_int hlt
      have hBx := hB.below hb (Nat.le_refl _)
      obtain ⟨g, off, rfl⟩ := hBx.someB (by omega)
      have cx := hBx.byteAt (i := p) hlt
      have hwp : wrap64 ((p : Int) + 1) = (p : Int) + 1 := wrap_nat p 1 (by omega)
      cases hn : isNl (l.getD p 0) with
      | false =>
        have q1 : (l.getD p 0 == 13) = false := by unfold isNl at hn; exact (Bool.or_eq_false_iff.1 hn).1
        have q2 : (l.getD p 0 == 10) = false := by unfold isNl at hn; exact (Bool.or_eq_false_iff.1 hn).2
        have q1' : (l.getD p 0 != 13) = true := by simp only [bne, q1]; rfl
        have q2' : (l.getD p 0 != 10) = true := by simp only [bne, q2]; rfl
        have HI2 : Hid (RwI w l st (p + 1) pre _ wr) := hide ⟨(unhide HI).e, fun j h1 h2 => by
          rcases Nat.lt_or_ge j p with h | h
          · exact (unhide HI).n j h1 h
          · obtain rfl : j = p := by omega
            exact hn, (unhide HI).o⟩
        clear hn
        generalize l.getD p 0 = x at *
        go_wp2_with fail
        go_roundw
        case rel => exact ⟨st, p + 1, pre, by omega, by omega, rfl, by go_num, ⟨_, rfl⟩, HI2, hb⟩
        case measure => simp [intOf]; omega
      | true =>
        have hc : ctn l st = p := ctn_isR hsp hlt hn (unhide HI).n
        have HE : Hid (LN l = (pre ++ [(pre.length, st, p, nxt l p)]) ++ lnR l (pre ++ [(pre.length, st, p, nxt l p)]).length (nxt l p)) := hide (by
          have h1 := lnR_cons (l := l) (k := pre.length) (s := st) (by omega)
          rw [hc] at h1
          rw [(unhide HI).e, h1]
          simp)
        have hnl := nxt_len hlt
        have hng := nxt_gt l p
        have hpl : pre.length ≤ l.length := by have := congrArg List.length (unhide HE); rw [List.length_append, List.length_append] at this; simp at this; omega
        have hwn : ∀ n : Nat, n ≤ l.length → 1 ≤ n → wrap64 ((n : Int) - 1) = ((n - 1 : Nat) : Int) := fun n h1 h2 => by rw [wrap_in _ (by omega) (by omega)]; omega
        have hv := nl_val hn
        have ho := (unhide HI).o
        clear hc hn HI
        have K : ∀ n : Nat, nxt l p = n → ∃ g2 c2 w3, Hid ((Builtin.append_ #[125, 125] 125 #[u3, .slice (some ⟨wr.heap.size, 0, none⟩) 1 1]).run Tryz.prog (wr.alloc (.cells #[.int .i64 (st : Int), .int .i64 (p : Int), .int .i64 (n : Int)] 76)) = .ok (.slice (some ⟨g2, 0, none⟩) (pre.length + 1) c2) w3) ∧
            Hid (RwI w l n n (pre ++ [(pre.length, st, p, n)]) (.slice (some ⟨g2, 0, none⟩) (pre.length + 1) c2) w3) ∧ Below w.heap.size w w3 := fun n hn => by
          obtain ⟨g2, c2, w3, r3, o3, y3⟩ := push_row wr w.heap.size _ _ _ (st : Int) (p : Int) (n : Int) 125 ho (by omega) hb.size
          refine ⟨g2, c2, w3, hide r3, hide ⟨by rw [← hn]; exact unhide HE, fun j h1 h2 => by omega, ?_⟩, hb.trans y3⟩
          rw [rowsV_snoc, List.length_append, List.length_singleton]
          exact o3
        by_cases h13 : l.getD p 0 = 13 ∧ p + 1 < l.length ∧ l.getD (p + 1) 0 = 10
        · obtain ⟨e1, e2, e3⟩ := h13
          have hnx : nxt l p = p + 2 := by unfold nxt edw; rw [getD_drop', getD_drop', Nat.add_zero, if_pos ⟨e1, e3⟩]
          obtain ⟨g2, c2, w3, R3, HI3, hb3⟩ := K (p + 2) hnx
          have cy := hBx.byteAt (i := p + 1) e2
          have t2 : decide ((p : Int) + 1 < (l.length : Int)) = true := decide_eq_true (by omega)
          rw [e1] at cx
          rw [e3] at cy
          have hw2 : wrap64 ((p : Int) + 1 + 1) = ((p + 2 : Nat) : Int) := by rw [wrap_in _ (by omega) (by omega)]; omega
          have hw3 := hwn (p + 2) (by omega) (by omega)
          have hw4 : wrap64 (((p + 2 - 1 : Nat) : Int) + 1) = ((p + 2 : Nat) : Int) := by rw [wrap_in _ (by omega) (by omega)]; omega
          clear K HE hnx e1 e3 hv ho hnl hng hwn
          go_wp2_with (at_builtin; refine wpList_append_known rfl _ _ 125 125 rfl _ _ rfl rfl _ _ (unhide R3) ?_)
          go_roundw
          case rel => exact ⟨p + 2, p + 2, _, Nat.le_refl _, by omega, by go_num, by go_num, ⟨_, rfl⟩, HI3, hb3⟩
          case measure => simp [intOf]; omega
        · have hnx : nxt l p = p + 1 := by
            unfold nxt edw
            rw [getD_drop', getD_drop', Nat.add_zero, if_neg (fun ⟨e1, e3⟩ => h13 ⟨e1, by
              rcases Nat.lt_or_ge (p + 1) l.length with h | h
              · exact h
              · rw [List.getD_eq_getElem?_getD, List.getElem?_eq_none h] at e3; simp at e3, e3⟩)]
          obtain ⟨g2, c2, w3, R3, HI3, hb3⟩ := K (p + 1) hnx
          have hw3 := hwn (p + 1) (by omega) (by omega)
          have hw4 : wrap64 (((p + 1 - 1 : Nat) : Int) + 1) = ((p + 1 : Nat) : Int) := by rw [wrap_in _ (by omega) (by omega)]; omega
          clear K HE hnx ho hnl hng hwn
          rcases hv with e1 | e1
          · rw [e1] at cx
            by_cases e2 : p + 1 < l.length
            · have cy := hBx.byteAt (i := p + 1) e2
              have t2 : decide ((p : Int) + 1 < (l.length : Int)) = true := decide_eq_true (by omega)
              have q2 : (l.getD (p + 1) 0 == 10) = false := by simpa using fun h => h13 ⟨e1, e2, h⟩
              clear h13 e1
              generalize l.getD (p + 1) 0 = y at *
              go_wp2_with (at_builtin; refine wpList_append_known rfl _ _ 125 125 rfl _ _ rfl rfl _ _ (unhide R3) ?_)
              go_roundw
              case rel => exact ⟨p + 1, p + 1, _, Nat.le_refl _, by omega, by go_num, by go_num, ⟨_, rfl⟩, HI3, hb3⟩
              case measure => simp [intOf]; omega
            · have t2 : decide ((p : Int) + 1 < (l.length : Int)) = false := decide_eq_false (by omega)
              clear h13 e1
              go_wp2_with (at_builtin; refine wpList_append_known rfl _ _ 125 125 rfl _ _ rfl rfl _ _ (unhide R3) ?_)
              go_roundw
              case rel => exact ⟨p + 1, p + 1, _, Nat.le_refl _, by omega, by go_num, by go_num, ⟨_, rfl⟩, HI3, hb3⟩
              case measure => simp [intOf]; omega
          · rw [e1] at cx
            clear h13 e1
            go_wp2_with (at_builtin; refine wpList_append_known rfl _ _ 125 125 rfl _ _ rfl rfl _ _ (unhide R3) ?_)
            go_roundw
            case rel => exact ⟨p + 1, p + 1, _, Nat.le_refl _, by omega, by go_num, by go_num, ⟨_, rfl⟩, HI3, hb3⟩
            case measure => simp [intOf]; omega
    · obtain rfl : p = l.length := by omega
      have t1 := ge_int hlt
      have hce := ctn_endR (unhide HI).n
      have hE := (unhide HI).e
      rw [lnR_last hce] at hE
      have hpl : pre.length ≤ l.length := by rw [hE, List.length_append] at HN; simp at HN; omega
      obtain ⟨g2, c2, w3, r3, o3, y3⟩ := push_row wr w.heap.size _ _ _ (st : Int) (l.length : Int) (l.length : Int) 125 (unhide HI).o (by omega) hb.size
      have R3 := hide r3
      have HO : Hid (w3.ownsRow w.heap.size 76 3 (.slice (some ⟨g2, 0, none⟩) (pre.length + 1) c2) (LN l).length (rowsV (LN l))) := hide (by
        rw [hE, rowsV_snoc, List.length_append, List.length_singleton]
        exact o3)
      have hb3 := hb.trans y3
      clear r3 o3 y3 hE hce HI
      go_wp2_with (at_builtin; refine wpList_append_known rfl _ _ 125 125 rfl _ _ rfl rfl _ _ (unhide R3) ?_)
      go_ret
      exact ⟨_, rfl, unhide HO, hb3⟩
end
section
theorem drew_belowL (w : World) : Below w.heap.size w w.drew := (ch_drew (N := w.heap.size) (n := 0) w).1
end
end Go.Proofs.YteamaneompijkaaGreatDoor
