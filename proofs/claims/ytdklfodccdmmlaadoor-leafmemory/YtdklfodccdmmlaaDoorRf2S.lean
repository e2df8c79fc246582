/- The document's answer for layer 2: Edges, Steps, Valid, Same, Alike. -/
import Derived.Test.YtdklfodccdmmlaaDoorRf2D
import Derived.Test.YtdklfodccdmmlaaDoorLst
namespace Go.Proofs.YtdklfodccdmmlaaDoor
open Go.ChangeShapes Go.WideShapes Go.ChangeAt Go.RowKit

/-- one integer is appended to a []int of the call's own -/
theorem push_int (W : World) (B n : Nat) (v : Value) (xs : List Value) (x : Int) (ty : TypeId) (h : W.ownsRow B 3 1 v n xs) (hn : n ≤ 1099511627776) (hB : B ≤ W.heap.size) :
    ∃ g c W', (Builtin.append_ #[70, 70] ty #[v, .slice (some ⟨W.heap.size, 0, none⟩) 1 1]).run Tryd.prog (W.alloc (.cells #[.int .i64 x] 3)) = .ok (.slice (some ⟨g, 0, none⟩) (n + 1) c) W' ∧
      W'.ownsRow B 3 1 (.slice (some ⟨g, 0, none⟩) (n + 1) c) (n + 1) (xs ++ [.int .i64 x]) ∧ Below B W W' := by
  obtain ⟨i, hi, hz, hs, hby⟩ := info_int
  have hr := World.ownsRow.alloc h (.cells #[.int .i64 x] 3)
  obtain ⟨g, c, W', hrun, ho, hg, _, _⟩ := run_append_lies (P := Tryd.prog) (W.alloc (.cells #[.int .i64 x] 3)) 70 ty B 3 i (.int .i64 0) 1 8 Tryd.underlying70 hi hz hs hby rfl (by decide)
    v n xs hr ⟨W.heap.size, 0, none⟩ 1 1 [.int .i64 x] rfl
    (fun j u hj => by
      cases j with
      | zero => simp at hj; subst hj; rw [Addr.add_lit]; exact (World.cell?_alloc_mark W _ _ (0, 0) 0).trans rfl
      | succ j => simp at hj)
    (fun u hu => by simp at hu; subst hu; rfl) (by decide) (by unfold maxLen; omega) (by omega) (by simp; omega) _ rfl
  exact ⟨g, c, W', hrun, ho, ((Below.refl B W).alloc hB _).grown hg (by simp; omega) (fun k hk => (hr.lt k hk).1)⟩
/-- one step is appended to a []api.Step of the call's own -/
theorem push_step (W : World) (B n : Nat) (v : Value) (xs : List Value) (a b c : Value) (ty : TypeId) (h : W.ownsRow B 64 3 v n xs) (hn : n ≤ 1099511627776) (hB : B ≤ W.heap.size) (ha : a.oneCell' = true) (hb : b.oneCell' = true) (hc : c.oneCell' = true) :
    ∃ g k W', (Builtin.append_ #[60, 60] ty #[v, .slice (some ⟨W.heap.size, 0, none⟩) 1 1]).run Tryd.prog (W.alloc (.cells #[a, b, c] 64)) = .ok (.slice (some ⟨g, 0, none⟩) (n + 1) k) W' ∧
      W'.ownsRow B 64 3 (.slice (some ⟨g, 0, none⟩) (n + 1) k) (n + 1) (xs ++ [a, b, c]) ∧ Below B W W' := by
  obtain ⟨i, hi, hz, hs, hby⟩ := info_step
  have hr := World.ownsRow.alloc h (.cells #[a, b, c] 64)
  obtain ⟨c0, c1, c2⟩ := three_new W a b c (t := 64)
  obtain ⟨g, k, W', hrun, ho, hg, _, _⟩ := run_append_lies (P := Tryd.prog) (W.alloc (.cells #[a, b, c] 64)) 60 ty B 64 i (.agg #[.int .i32 0, .int .i64 0, .bool false]) 3 24 Tryd.underlying60 hi hz hs hby rfl (by decide)
    v n xs hr ⟨W.heap.size, 0, none⟩ 1 1 [a, b, c] rfl
    (fun j u hj => by
      match j with
      | 0 => simp at hj; subst hj; rw [Addr.add_lit]; exact c0
      | 1 => simp at hj; subst hj; rw [Addr.add_lit]; exact c1
      | 2 => simp at hj; subst hj; rw [Addr.add_lit]; exact c2
      | j + 3 => simp at hj)
    (fun u hu => by simp at hu; rcases hu with rfl | rfl | rfl <;> assumption) (by decide) (by unfold maxLen; omega) (by omega) (by simp; omega) _ rfl
  exact ⟨g, k, W', hrun, ho, ((Below.refl B W).alloc hB _).grown hg (by simp; omega) (fun k hk => (hr.lt k hk).1)⟩

/-- the edges up to a place -/
def edgesTo (l : List Int) (p : Nat) : List Nat := (List.range p).filter fun q => !inside l q
theorem edgesTo_yes {l : List Int} {p : Nat} (h : inside l p = false) : edgesTo l (p + 1) = edgesTo l p ++ [p] := by simp [edgesTo, List.range_succ, List.filter_append, h]
theorem edgesTo_no {l : List Int} {p : Nat} (h : inside l p = true) : edgesTo l (p + 1) = edgesTo l p := by simp [edgesTo, List.range_succ, List.filter_append, h]
theorem edgesTo_len (l : List Int) (p : Nat) : (edgesTo l p).length ≤ p := by
  have := List.length_filter_le (fun q => !inside l q) (List.range p)
  simpa [edgesTo] using this
theorem edgesTo_in {l : List Int} {p : Nat} (he : inside l p = false) (hp : p < l.length) : ∀ k, 1 ≤ k → k ≤ wid (l.drop p) → edgesTo l (p + k) = edgesTo l p ++ [p]
  | 0, h, _ => by omega
  | 1, _, _ => edgesTo_yes he
  | k + 2, _, h2 => by
    rw [show p + (k + 2) = (p + (k + 1)) + 1 by omega, edgesTo_no (edge_between (by omega) (by omega) hp)]
    exact edgesTo_in he hp (k + 1) (by omega) (by omega)
theorem edges_split {l : List Int} : ∀ (n p : Nat), l.length - p ≤ n → p ≤ l.length → inside l p = false → edgesTo l (l.length + 1) = edgesTo l p ++ (spots l p ++ [l.length])
  | 0, p, h, hl, he => by
    obtain rfl : p = l.length := by omega
    rw [spots_end (by omega), edgesTo_yes he]; rfl
  | n + 1, p, h, hl, he => by
    by_cases hp : p < l.length
    · have hw := wid_pos hp
      rw [edges_split n (p + wid (l.drop p)) (by omega) (wid_len hp) (edge_next he hp), edgesTo_in he hp _ hw (Nat.le_refl _), spots_cons hp]
      simp
    · obtain rfl : p = l.length := by omega
      rw [spots_end (by omega), edgesTo_yes he]; rfl
theorem edges_all (l : List Int) : edgesTo l (l.length + 1) = spots l 0 ++ [l.length] := by
  rw [edges_split l.length 0 (by omega) (Nat.zero_le _) (edge_zero l)]
  simp [edgesTo]

set_option maxHeartbeats 1000000 in
theorem Edges_at (a0 : Option Addr) (cap : Nat) (l : List Int) (w : World) (hB : IsB w a0 cap l) (hl : l.length ≤ 268435456) :
    Calls Tryd.prog 38 #[.slice a0 l.length cap] w fun e w' => ∃ v, e = .returned v ∧ w'.ownsRow w.heap.size 3 1 v ((spots l 0).length + 1) (ints (spots l 0 ++ [l.length])) ∧ Below w.heap.size w w' := by
  go_enter Tryd.func38, Tryd.ntmps38
  go_wp2
  go_loopw [3, 4] (fun v i wx => ∃ p : Nat, p ≤ l.length + 1 ∧ i = .int .i64 p ∧ Hid (wx.ownsRow w.heap.size 3 1 v (edgesTo l p).length (ints (edgesTo l p))) ∧ Below w.heap.size w wx) (fun _ i _ => l.length + 1 - (intOf i).toNat)
  case atStart => exact ⟨0, by omega, rfl, World.ownsRow_nil _ _ _ _, Below.refl _ _⟩
  case round =>
    obtain ⟨p, hp, rfl, ho, hb⟩ := hrel
    by_cases hlt : p ≤ l.length
    · cases hi : inside l p with
      | true =>
        have HI := hide hi
        have he := edgesTo_no hi
        clear hi
        have hBx := hB.below hb (Nat.le_refl _)
        go_wp2_with (go_at_call 15; refine (Inside_is a0 cap p l _ hBx hlt (unhide HI)).mono ?_; rintro e w' ⟨rfl, rfl⟩)
        go_roundw
        case rel => exact ⟨p + 1, by omega, by go_num, by rw [he]; exact ho, hb⟩
        case measure => simp [intOf]; omega
      | false =>
        have HI := hide hi
        have he := edgesTo_yes hi
        have hle := edgesTo_len l p
        clear hi
        have hBx := hB.below hb (Nat.le_refl _)
        obtain ⟨g, c, w2, r2, o2, x2⟩ := push_int _ _ _ _ _ (p : Int) 70 (unhide ho) (by omega) hb.size
        have R2 := hide r2
        clear r2
        go_wp2_with (first
          | (go_at_call 15; refine (Inside_is a0 cap p l _ hBx hlt (unhide HI)).mono ?_; rintro e w' ⟨rfl, rfl⟩)
          | (at_builtin; refine wpList_append_known rfl _ _ 70 70 rfl _ _ rfl rfl _ _ (unhide R2) ?_))
        go_roundw
        case rel => exact ⟨p + 1, by omega, by go_num, by rw [he, List.length_append, ints_snoc]; exact hide o2, hb.trans x2⟩
        case measure => simp [intOf]; omega
    · obtain rfl : p = l.length + 1 := by omega
      have ho' := unhide ho
      rw [edges_all, List.length_append] at ho'
      clear ho
      go_wp2
      go_ret
      exact ⟨_, rfl, ho', hb⟩

end Go.Proofs.YtdklfodccdmmlaaDoor
