/- Layer 7: the document's Width and Edges (galleyref04), SameInts (Width taken from Rs1: not beside it). -/
import Derived.Test.YtdmkgocddikobaaDoorRefV
import Derived.Test.YtdmkgocddikobaaDoorLns
namespace Go.Proofs.YtdmkgocddikobaaDoor
open Go.ChangeShapes Go.WideShapes Go.ChangeAt Go.RowKit

theorem RWhole_is (a0 : Option Addr) (cap n : Nat) (l : List Int) {v : Bool} (w : World) (hn : n = l.length) (hm : l.length ≤ maxLen) (hB : Bs w a0 l) (hv : whole l = v) :
    Calls Tryd.prog 48 #[.slice a0 n cap] w fun e w' => e = .returned (.bool v) ∧ ∃ n, w' = w.drewN n := by
  subst hn hv
  exact RWhole_at a0 cap l w hm hB
theorem wid_cases (a : Int) (r : List Int) : (whole ((a :: r).take (need a).toNat) = true ∧ wid (a :: r) = (need a).toNat ∧ whl (a :: r) = true ∧ (first (a :: r)).1 = value ((a :: r).take (need a).toNat)) ∨
    (whole ((a :: r).take (need a).toNat) = false ∧ wid (a :: r) = 1 ∧ whl (a :: r) = false ∧ (first (a :: r)).1 = 65533) := by
  cases h : whole ((a :: r).take (need a).toNat) with
  | true =>
    have hn : ¬ (need a).toNat = 0 := fun e => by rw [e] at h; cases h
    exact Or.inl ⟨rfl, by simp [wid, first, h], by simp [whl, lng, h, hn], by simp [first, h]⟩
  | false => exact Or.inr ⟨rfl, by simp [wid, first, h], by simp [whl, lng, h], by simp [first, h]⟩

set_option maxHeartbeats 1000000 in
theorem RWidth_at (g off cap p : Nat) (l : List Int) (w : World) (hL : Lies w g off l) (hcap : l.length ≤ cap) (hm : l.length ≤ 140737488351232) (hp : p < l.length) :
    Calls Tryd.prog 40 #[.slice (some ⟨g, off, none⟩) l.length cap, .int .i64 (p : Int)] w fun e w' => e = .returned (.int .i64 (wid (l.drop p) : Nat)) ∧ ∃ n, w' = w.drewN n := by
  obtain ⟨a, r, hd⟩ : ∃ a r, l.drop p = a :: r := by
    cases hd : l.drop p with
    | nil => have := congrArg List.length hd; simp at this; omega
    | cons a r => exact ⟨a, r, rfl⟩
  have hld := hL.drop p
  rw [hd] at hld
  obtain ⟨hc, ha0, ha1⟩ := hld.head
  have hlr : r.length + 1 = l.length - p := by have := congrArg List.length hd; simp at this; omega
  obtain ⟨n, hn⟩ : ∃ n : Nat, need a = n := need_nat a
  have hcp : ¬ cap = p := by omega
  have hpi : (p : Int) < (l.length : Int) := by omega
  have HD := hide hd
  have hn4 := need_hi a
  rw [hd]
  have HW := hide (wid_cases a r)
  rw [hn, show ((n : Nat) : Int).toNat = n from rfl] at HW
  clear hd
  rcases Nat.eq_zero_or_pos n with h0 | h0
  · subst h0
    have hw : wid (a :: r) = 1 := by
      rcases unhide HW with h | h
      · cases h.1
      · exact h.2.1
    rw [hw]
    clear HW
    go_enter Tryd.func40, Tryd.ntmps40
    go_wp2_with (go_at_call 47; refine (RNeed_any _ _ ha0 ha1).mono ?_; rw [hn]; rintro e w' ⟨rfl, rfl⟩; dsimp only)
    go_ret
    exact ⟨rfl, 0, rfl⟩
  · have e1 : decide ((1 : Int) ≤ (n : Int)) = true := decide_eq_true (by omega)
    have e1' : decide ((n : Int) ≥ 1) = true := decide_eq_true (by omega)
    by_cases hle : p + n ≤ l.length
    · have e2 : decide ((p : Int) + (n : Int) ≤ (l.length : Int)) = true := decide_eq_true (by omega)
      have hlt : ((a :: r).take n).length = n := by simp; omega
      have HLd := hide (hld.take n)
      have hgo : p + n ≤ cap := by omega
      cases hwh : whole ((a :: r).take n) with
      | true =>
        have hw : wid (a :: r) = n := by
          rcases unhide HW with h | h
          · exact h.2.1
          · rw [h.1] at hwh; cases hwh
        rw [hw]
        clear HW
        go_enter Tryd.func40, Tryd.ntmps40
        go_wp2_with (first
          | (go_at_call 47; refine (RNeed_any _ _ ha0 ha1).mono ?_; rw [hn]; rintro e w' ⟨rfl, rfl⟩; dsimp only)
          | (go_at_call 48; refine (RWhole_is _ _ _ ((a :: r).take n) _ hlt.symm (by rw [hlt]; unfold maxLen; omega) (Or.inr ⟨_, _, rfl, unhide HLd⟩) hwh).mono ?_; rintro e w' ⟨rfl, nq, rfl⟩; dsimp only))
        go_ret
        exact ⟨rfl, _, rfl⟩
      | false =>
        have hw : wid (a :: r) = 1 := by
          rcases unhide HW with h | h
          · rw [h.1] at hwh; cases hwh
          · exact h.2.1
        rw [hw]
        clear HW
        go_enter Tryd.func40, Tryd.ntmps40
        go_wp2_with (first
          | (go_at_call 47; refine (RNeed_any _ _ ha0 ha1).mono ?_; rw [hn]; rintro e w' ⟨rfl, rfl⟩; dsimp only)
          | (go_at_call 48; refine (RWhole_is _ _ _ ((a :: r).take n) _ hlt.symm (by rw [hlt]; unfold maxLen; omega) (Or.inr ⟨_, _, rfl, unhide HLd⟩) hwh).mono ?_; rintro e w' ⟨rfl, nq, rfl⟩; dsimp only))
        go_ret
        exact ⟨rfl, _, rfl⟩
    · have e2 : decide ((p : Int) + (n : Int) ≤ (l.length : Int)) = false := decide_eq_false (by omega)
      have hw : wid (a :: r) = 1 := by
        rcases unhide HW with h | h
        · have h1 := h.1
          rw [List.take_of_length_le (by simp; omega), whole_len (by omega)] at h1
          cases h1
        · exact h.2.1
      rw [hw]
      clear HW
      go_enter Tryd.func40, Tryd.ntmps40
      go_wp2_with (go_at_call 47; refine (RNeed_any _ _ ha0 ha1).mono ?_; rw [hn]; rintro e w' ⟨rfl, rfl⟩; dsimp only)
      go_ret
      exact ⟨rfl, 0, rfl⟩


def intsN (ps : List Nat) : List Value := ps.map fun (p : Nat) => .int .i64 (p : Int)
theorem intsN_snoc (ps : List Nat) (p : Nat) : intsN (ps ++ [p]) = intsN ps ++ [.int .i64 (p : Int)] := by simp [intsN]
theorem row_belowS {W W' : World} {B k s : Nat} {v : Value} {t : TypeId} {xs : List Value} (h : W.ownsRow B t s v k xs) (hb : Below W.heap.size W W') : W'.ownsRow B t s v k xs := by
  refine ⟨h.1, ?_⟩
  rcases h.2 with h2 | ⟨g', c', cur, h1, h2, h3, h4⟩
  · exact Or.inl h2
  · exact Or.inr ⟨g', c', cur, h1, h2, (hb.block g' (heap_lt h3)).trans h3, h4⟩
theorem spots_lenS (l : List Int) : ∀ (n p : Nat), l.length - p ≤ n → p ≤ l.length → (spots l p).length + p ≤ l.length
  | 0, p, h, hp => by rw [spots_end (by omega)]; simpa using hp
  | n + 1, p, h, hp => by
    by_cases hlt : p < l.length
    · have h1 := wid_pos hlt
      have h2 := wid_len hlt
      have := spots_lenS l n (p + wid (l.drop p)) (by omega) h2
      rw [spots_cons hlt, List.length_cons]
      omega
    · rw [spots_end hlt]; simpa using hp

set_option maxHeartbeats 2000000 in
theorem Edges4_at (a0 : Option Addr) (cap : Nat) (l : List Int) (w : World) (hB : IsB w a0 cap l) (hl : l.length ≤ 1048576) :
    Calls Tryd.prog 29 #[.slice a0 l.length cap] w fun y w' => ∃ v, y = .returned v ∧ w'.ownsRow w.heap.size 3 1 v ((spots l 0).length + 1) (intsN (spots l 0 ++ [l.length])) ∧ Below w.heap.size w w' := by
  have hsl := spots_lenS l l.length 0 (by omega) (Nat.zero_le _)
  go_enter Tryd.func29, Tryd.ntmps29
  go_wp2_with fail
  have o1 : (w.alloc (.cells #[.int .i64 0] 3)).ownsRow w.heap.size 3 1 (.slice (some ⟨w.heap.size, 0, none⟩) 1 1) 1 (intsN ([] ++ [0])) :=
    ⟨rfl, Or.inr ⟨w.heap.size, 1, #[.int .i64 0], rfl, Nat.le_refl _, World.alloc_heap_new w _, by decide, by decide, rfl, rfl⟩⟩
  have b1 := (Below.refl w.heap.size w).alloc (Nat.le_refl _) (.cells #[.int .i64 0] 3)
  generalize w.alloc (.cells #[.int .i64 0] 3) = w1 at *
  go_loopw [3, 4] (fun v i wx => ∃ (p : Nat) (pre : List Nat), p ≤ l.length ∧ i = .int .i64 p ∧ Hid (spots l 0 = pre ++ spots l p) ∧ Hid (wx.ownsRow w.heap.size 3 1 v (pre.length + 1) (intsN (pre ++ [p]))) ∧ Below w.heap.size w wx) (fun _ i _ => l.length - (intOf i).toNat)
  case atStart => exact ⟨0, [], Nat.zero_le _, rfl, hide rfl, hide o1, b1⟩
  case round =>
    obtain ⟨p, pre, hp, rfl, hsp, ho, hb⟩ := hrel
    by_cases hlt : p < l.length
    · have hBx := hB.below hb (Nat.le_refl _)
      obtain ⟨g, off, rfl⟩ := hBx.someB (by omega)
      have hL : Lies wr g off l := by
        rcases hBx.2.2.1 with h3 | ⟨g', off', e, hL⟩
        · rw [h3] at hlt; simp at hlt
        · cases e; exact hL
      have hW := RWidth_at g off cap p l _ hL hBx.1 hBx.2.1 hlt
      have hwl := wid_len hlt
      have hwp := wid_pos hlt
      have hnx : Hid (spots l 0 = (pre ++ [p]) ++ spots l (p + wid (l.drop p))) := hide (by rw [unhide hsp, spots_cons hlt]; simp)
      have hpl : pre.length ≤ l.length := by have := congrArg List.length (unhide hsp); rw [List.length_append] at this; omega
      have hwr : wrap64 ((p : Int) + (wid (l.drop p) : Int)) = ((p + wid (l.drop p) : Nat) : Int) := by rw [wrap_nat _ _ (by omega)]; omega
      clear hBx hL
      generalize wid (l.drop p) = wd at *
      go_wp2_with fail
      refine hW.mono ?_
      rintro e w2 ⟨rfl, hq⟩
      have x3 : Below wr.heap.size wr w2 := quiet_below hq _
      have ho2 := row_belowS (unhide ho) x3
      have hb2 := hb.trans (quiet_below hq w.heap.size)
      obtain ⟨g2, c2, w3, r3, o3, y3⟩ := push_intS w2 w.heap.size _ _ _ ((p + wd : Nat) : Int) 50 ho2 (by omega) hb2.size
      have R3 := hide r3
      clear r3 hW x3 hq
      go_wp2_with (at_builtin; refine wpList_append_known rfl _ _ 50 50 rfl _ _ rfl rfl _ _ (unhide R3) ?_)
      go_roundw
      case rel => exact ⟨p + wd, pre ++ [p], hwl, by go_num, hnx, by rw [List.length_append, List.length_singleton, intsN_snoc]; exact hide o3, hb2.trans y3⟩
      case measure => simp [intOf]; omega
    · obtain rfl : p = l.length := by omega
      have ho' := unhide ho
      have hs := unhide hsp
      rw [spots_end hlt, List.append_nil] at hs
      rw [← hs] at ho'
      clear ho hs
      go_wp2_with fail
      go_ret
      exact ⟨_, rfl, ho', hb⟩

end Go.Proofs.YtdmkgocddikobaaDoor
