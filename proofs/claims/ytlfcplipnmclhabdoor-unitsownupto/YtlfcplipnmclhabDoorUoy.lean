/- The document's answer for slightly longer texts: Edges, Steps, To. -/
import Derived.Test.YtlfcplipnmclhabDoorUox
namespace Go.Proofs.YtlfcplipnmclhabDoor
open Go.ChangeShapes Go.WideShapes Go.ChangeAt Go.RowKit

set_option maxHeartbeats 1000000 in
theorem Edges_wd (a0 : Option Addr) (cap : Nat) (l : List Int) (w : World) (hB : IsB w a0 cap l) (hl : l.length ≤ 1048600) :
    Calls Tryd.prog 48 #[.slice a0 l.length cap] w fun e w' => ∃ v, e = .returned v ∧ w'.ownsRow w.heap.size 3 1 v ((spots l 0).length + 1) (ints (spots l 0 ++ [l.length])) ∧ Below w.heap.size w w' := by
  go_enter Tryd.func48, Tryd.ntmps48
  go_wp2
  go_loopw [3, 4] (fun v i wx => ∃ p : Nat, p ≤ l.length + 1 ∧ i = .int .i64 p ∧ Hid (wx.ownsRow w.heap.size 3 1 v (edgesTo l p).length (ints (edgesTo l p))) ∧ Below w.heap.size w wx) (fun _ i _ => l.length + 1 - (intOf i).toNat)
  case atStart => exact ⟨0, by omega, rfl, World.ownsRow_nil _ _ _ _, Below.refl _ _⟩
  case round =>
    obtain ⟨p, hp, rfl, ho, hb⟩ := hrel
    by_cases hlt : p ≤ l.length
    · cases hi : inside l p with
      | true =>
        have HI := hide hi
        have he := edgesTo_no hi
        clear hi
        have hBx := hB.below hb (Nat.le_refl _)
        go_wp2_with (go_at_call 58; refine (Inside_is a0 cap p l _ hBx hlt (unhide HI)).mono ?_; rintro e w' ⟨rfl, rfl⟩)
        go_roundw
        case rel => exact ⟨p + 1, by omega, by go_num, by rw [he]; exact ho, hb⟩
        case measure => simp [intOf]; omega
      | false =>
        have HI := hide hi
        have he := edgesTo_yes hi
        have hle := edgesTo_len l p
        clear hi
        have hBx := hB.below hb (Nat.le_refl _)
        obtain ⟨g, c, w2, r2, o2, x2⟩ := push_int _ _ _ _ _ (p : Int) 68 (unhide ho) (by omega) hb.size
        have R2 := hide r2
        clear r2
        go_wp2_with (first
          | (go_at_call 58; refine (Inside_is a0 cap p l _ hBx hlt (unhide HI)).mono ?_; rintro e w' ⟨rfl, rfl⟩)
          | (at_builtin; refine wpList_append_known rfl _ _ 68 68 rfl _ _ rfl rfl _ _ (unhide R2) ?_))
        go_roundw
        case rel => exact ⟨p + 1, by omega, by go_num, by rw [he, List.length_append, ints_snoc]; exact hide o2, hb.trans x2⟩
        case measure => simp [intOf]; omega
    · obtain rfl : p = l.length + 1 := by omega
      have ho' := unhide ho
      rw [edges_all, List.length_append] at ho'
      clear ho
      go_wp2
      go_ret
      exact ⟨_, rfl, ho', hb⟩

set_option maxHeartbeats 1000000 in
theorem Steps_wd (a0 : Option Addr) (cap : Nat) (l : List Int) (w : World) (hB : IsB w a0 cap l) (hl : l.length ≤ 1048600) :
    Calls Tryd.prog 35 #[.slice a0 l.length cap] w fun e w' => ∃ a c, e = .returned (.slice a (spots l 0).length c) ∧ (spots l 0).length ≤ c ∧ StepsAt w' l a (spots l 0) ∧ Below w.heap.size w w' := by
  have hsl := spots_le l
  go_enter Tryd.func35, Tryd.ntmps35
  go_wp2_with fail
  refine (Edges_wd a0 cap l w hB hl).mono ?_
  rintro e w1 ⟨v1, rfl, o1, x1⟩
  have hlen : (spots l 0 ++ [l.length]).length = (spots l 0).length + 1 := by simp
  rw [← hlen] at o1
  obtain ⟨a1, c1, rfl, k1, i1⟩ := ints_at o1
  rw [hlen] at k1 ⊢
  obtain ⟨g1, rfl, gl, gc⟩ : ∃ g, a1 = some ⟨g, 0, none⟩ ∧ g < w1.heap.size ∧ ∀ k, k < (spots l 0).length → w1.cell? ⟨g, k, none⟩ = some (.int .i64 ((spots l 0).getD k 0 : Nat)) := by
    rcases i1 with h | ⟨g, h1, h2, h3⟩
    · simp at h
    · exact ⟨g, h1, h2, fun k hk => by rw [h3 k (by rw [hlen]; omega), getD_snoc _ _ _ hk]⟩
  clear o1 i1 hlen
  go_wp2_with fail
  generalize hn : (spots l 0).length = n at *
  have HN := hide hn
  clear hn
  go_loopw [3, 5] (fun u i wx => ∃ (k : Nat) (v : Value), u = v ∧ k ≤ n ∧ i = .int .i64 k ∧ Hid (wx.ownsRow w1.heap.size 51 3 v k (stps l ((spots l 0).take k))) ∧ Below w1.heap.size w1 wx) (fun _ i _ => n - (intOf i).toNat)
  case atStart => exact ⟨0, _, rfl, Nat.zero_le _, rfl, World.ownsRow_nil _ _ _ _, Below.refl _ _⟩
  case round =>
    obtain ⟨k, v, rfl, hk, rfl, ho, hb⟩ := hrel
    by_cases hlt : k < n
    · have hck := (hb.cell (p := ⟨g1, k, none⟩) gl).trans (gc k hlt)
      have hq := spots_lt (l := l) (k := k) (by rw [unhide HN]; exact hlt)
      have hts := take_snoc' (spots l 0) k (by rw [unhide HN]; exact hlt)
      generalize (spots l 0).getD k 0 = q at *
      have HTS := hide hts
      clear hts
      have hBx := (hB.below x1 (Nat.le_refl _)).below hb (Nat.le_refl _)
      go_wp2_with fail
      refine (Of_at a0 cap q l _ hBx hq).mono ?_
      unfold stp stepV
      rintro e w2 ⟨rfl, x2⟩
      have hb2 := hb.trans (x2.mono hb.size)
      have ho2 := own_below (unhide ho) x2
      obtain ⟨g, c, w3, r3, o3, x3⟩ := push_step w2 _ k _ _ (.int .i32 (first (l.drop q)).1) (.int .i64 (wid (l.drop q))) (.bool (whl (l.drop q))) 60 ho2 (by omega) hb2.size rfl rfl rfl
      have R3 := hide r3
      clear r3
      go_wp2_with (at_builtin; refine wpList_append_known rfl _ _ 60 60 rfl _ _ rfl rfl _ _ (unhide R3) ?_)
      go_roundw
      case rel => exact ⟨k + 1, _, rfl, by omega, by go_num, by rw [unhide HTS, stps_snoc]; exact hide o3, hb2.trans x3⟩
      case measure => simp [intOf]; omega
    · obtain rfl : k = n := by omega
      have ho' := unhide ho
      rw [List.take_of_length_le (by rw [unhide HN]; omega)] at ho'
      have ho2 := ho'
      rw [← unhide HN] at ho2
      obtain ⟨a, c, rfl, h1, h2⟩ := steps_at ho2
      rw [unhide HN] at h1
      rw [unhide HN]
      clear ho ho' ho2
      go_wp2_with fail
      go_ret
      refine ⟨a, c, ?_, by rw [unhide HN]; exact h1, h2, x1.trans (hb.mono x1.size)⟩
      rw [unhide HN]
      rfl

set_option maxHeartbeats 1000000 in
theorem RTo_wd (a0 : Option Addr) (cap : Nat) (l : List Int) (w : World) (hB : IsB w a0 cap l) (hl : l.length ≤ 1048600) :
    Calls Tryd.prog 18 #[.slice a0 l.length cap] w fun e w' => ∃ v, e = .returned v ∧ OwnU w' w.heap.size v (toL l) ∧ Below w.heap.size w w' := by
  have hsl := spots_le l
  have HLB := hide hB.2.2.2
  rw [toL_toP]
  go_enter Tryd.func18, Tryd.ntmps18
  go_wp2_with fail
  refine (Steps_wd a0 cap l w hB hl).mono ?_
  rintro e w1 ⟨aw, cw, rfl, kw, jw, x1⟩
  generalize hn : (spots l 0).length = n at *
  have HN := hide hn
  clear hn hB
  have s1 := x1.size
  go_wp2_with fail
  go_loopw [3, 5] (fun v i wx => ∃ k : Nat, k ≤ n ∧ i = .int .i64 k ∧ Hid (OwnU wx w1.heap.size v (toP l ((spots l 0).take k))) ∧ Below w1.heap.size w1 wx) (fun _ i _ => n - (intOf i).toNat)
  case atStart => exact ⟨0, Nat.zero_le _, rfl, hide (World.ownsRow_nil _ _ _ _), Below.refl _ _⟩
  case round =>
    obtain ⟨k, hk, rfl, ho, hb⟩ := hrel
    by_cases hlt : k < n
    · have hkl : k < (spots l 0).length := by rw [unhide HN]; exact hlt
      obtain ⟨g, rfl, c0, c1, c2⟩ : ∃ g, aw = some ⟨g, 0, none⟩ ∧ wr.cell? ⟨g, k * 3, none⟩ = some (.int .i32 (first (l.drop ((spots l 0).getD k 0))).1) ∧ wr.cell? ⟨g, k * 3 + 1, none⟩ = some (.int .i64 (wid (l.drop ((spots l 0).getD k 0)))) ∧ wr.cell? ⟨g, k * 3 + 2, none⟩ = some (.bool (whl (l.drop ((spots l 0).getD k 0)))) := by
        rcases jw.below hb (Nat.le_refl _) with h | ⟨g, h1, _, h3⟩
        · rw [h] at hkl; simp at hkl
        · exact ⟨g, h1, h3 k hkl⟩
      have HRU := hide (rune_step (unhide HLB) (runesL_rune (unhide HLB) l.length 0 (by omega) _ (getD_memN hkl)))
      have HF : Hid (toP l ((spots l 0).take (k + 1)) = toP l ((spots l 0).take k) ++ if whl (l.drop ((spots l 0).getD k 0)) then uni (first (l.drop ((spots l 0).getD k 0))).1 else [65533]) := hide (by rw [take_snoc hkl, toP_snoc, seen_step])
      have hfl := toP_len l ((spots l 0).take k)
      rw [List.length_take] at hfl
      generalize (spots l 0).getD k 0 = q at *
      generalize (first (l.drop q)).1 = r at *
      generalize wid (l.drop q) = wd at *
      generalize whl (l.drop q) = wh at *
      have hsz := hb.size
      go_wp2_with fail
      refine (add_at w1.heap.size _ _ r wd wh 65533 wr (unhide ho) (unhide HRU) (by omega) hsz).mono ?_
      rintro e w3 ⟨v3, rfl, o3, b3⟩
      go_wp2
      go_roundw
      case rel => exact ⟨k + 1, by omega, by go_num, by rw [unhide HF]; exact hide o3, hb.trans b3⟩
      case measure => simp [intOf]; omega
    · obtain rfl : k = n := by omega
      have ho' := unhide ho
      rw [List.take_of_length_le (by rw [unhide HN]; omega)] at ho'
      clear ho
      go_wp2
      go_ret
      exact ⟨_, rfl, ho'.mono s1, x1.trans (hb.mono s1)⟩


end Go.Proofs.YtlfcplipnmclhabDoor
