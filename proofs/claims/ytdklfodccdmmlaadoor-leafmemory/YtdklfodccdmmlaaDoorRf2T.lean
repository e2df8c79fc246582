/- The document's answer for layer 2: Steps, Valid; and that two lists alike are found alike (Same, Alike). -/
import Derived.Test.YtdklfodccdmmlaaDoorRf2S
namespace Go.Proofs.YtdklfodccdmmlaaDoor
open Go.ChangeShapes Go.WideShapes Go.ChangeAt Go.RowKit

theorem own_below {W W' : World} {B e s n : Nat} {v : Value} {xs : List Value} (h : W.ownsRow B e s v n xs) (hb : Below W.heap.size W W') : W'.ownsRow B e s v n xs :=
  h.kept (row := none) ⟨hb.os, hb.tape, hb.output, hb.size, fun j hj _ => hb.block j hj⟩ (by cases hv : v.ownBlock <;> simp)
theorem take_snoc' (ps : List Nat) (k : Nat) (h : k < ps.length) : ps.take (k + 1) = ps.take k ++ [ps.getD k 0] := by
  rw [List.take_succ_eq_append_getElem h]
  simp [List.getD, List.getElem?_eq_getElem h]
theorem getD_snoc (ps : List Nat) (n k : Nat) (h : k < ps.length) : (ps ++ [n]).getD k 0 = ps.getD k 0 := by simp [List.getD, List.getElem?_append_left h]
theorem spots_bound {l : List Int} : ∀ (f p : Nat), ∀ q ∈ places l f p, q < l.length
  | 0, _, q, h => by simp [places] at h
  | f + 1, p, q, h => by
    simp only [places] at h
    split at h
    · rename_i hp
      rcases List.mem_cons.1 h with rfl | h
      · exact hp
      · exact spots_bound f _ q h
    · simp at h
theorem spots_lt {l : List Int} {k : Nat} (h : k < (spots l 0).length) : (spots l 0).getD k 0 < l.length := by
  have := spots_bound (l := l) _ 0 _ (List.getElem_mem h)
  simpa [List.getD, List.getElem?_eq_getElem h] using this

set_option maxHeartbeats 1000000 in
theorem Steps_at (a0 : Option Addr) (cap : Nat) (l : List Int) (w : World) (hB : IsB w a0 cap l) (hl : l.length ≤ 268435456) :
    Calls Tryd.prog 32 #[.slice a0 l.length cap] w fun e w' => ∃ a c, e = .returned (.slice a (spots l 0).length c) ∧ (spots l 0).length ≤ c ∧ StepsAt w' l a (spots l 0) ∧ Below w.heap.size w w' := by
  have hsl := spots_le l
  go_enter Tryd.func32, Tryd.ntmps32
  go_wp2_with fail
  refine (Edges_at a0 cap l w hB hl).mono ?_
  rintro e w1 ⟨v1, rfl, o1, x1⟩
  have hlen : (spots l 0 ++ [l.length]).length = (spots l 0).length + 1 := by simp
  rw [← hlen] at o1
  obtain ⟨a1, c1, rfl, k1, i1⟩ := ints_at o1
  rw [hlen] at k1 ⊢
  obtain ⟨g1, rfl, gl, gc⟩ : ∃ g, a1 = some ⟨g, 0, none⟩ ∧ g < w1.heap.size ∧ ∀ k, k < (spots l 0).length → w1.cell? ⟨g, k, none⟩ = some (.int .i64 ((spots l 0).getD k 0 : Nat)) := by
    rcases i1 with h | ⟨g, h1, h2, h3⟩
    · simp at h
    · exact ⟨g, h1, h2, fun k hk => by rw [h3 k (by rw [hlen]; omega), getD_snoc _ _ _ hk]⟩
  clear o1 i1 hlen
  go_wp2_with fail
  generalize hn : (spots l 0).length = n at *
  have HN := hide hn
  clear hn
  go_loopw [3, 5] (fun u i wx => ∃ (k : Nat) (v : Value), u = v ∧ k ≤ n ∧ i = .int .i64 k ∧ Hid (wx.ownsRow w1.heap.size 64 3 v k (stps l ((spots l 0).take k))) ∧ Below w1.heap.size w1 wx) (fun _ i _ => n - (intOf i).toNat)
  case atStart => exact ⟨0, _, rfl, Nat.zero_le _, rfl, World.ownsRow_nil _ _ _ _, Below.refl _ _⟩
  case round =>
    obtain ⟨k, v, rfl, hk, rfl, ho, hb⟩ := hrel
    by_cases hlt : k < n
    · have hck := (hb.cell (p := ⟨g1, k, none⟩) gl).trans (gc k hlt)
      have hq := spots_lt (l := l) (k := k) (by rw [unhide HN]; exact hlt)
      have hts := take_snoc' (spots l 0) k (by rw [unhide HN]; exact hlt)
      generalize (spots l 0).getD k 0 = q at *
      have HTS := hide hts
      clear hts
      have hBx := (hB.below x1 (Nat.le_refl _)).below hb (Nat.le_refl _)
      go_wp2_with fail
      refine (RfOf_at a0 cap q l _ hBx hq).mono ?_
      unfold stp stepV
      rintro e w2 ⟨rfl, x2⟩
      have hb2 := hb.trans (x2.mono hb.size)
      have ho2 := own_below (unhide ho) x2
      obtain ⟨g, c, w3, r3, o3, x3⟩ := push_step w2 _ k _ _ (.int .i32 (first (l.drop q)).1) (.int .i64 (wid (l.drop q))) (.bool (whl (l.drop q))) 60 ho2 (by omega) hb2.size rfl rfl rfl
      have R3 := hide r3
      clear r3
      go_wp2_with (at_builtin; refine wpList_append_known rfl _ _ 60 60 rfl _ _ rfl rfl _ _ (unhide R3) ?_)
      go_roundw
      case rel => exact ⟨k + 1, _, rfl, by omega, by go_num, by rw [unhide HTS, stps_snoc]; exact hide o3, hb2.trans x3⟩
      case measure => simp [intOf]; omega
    · obtain rfl : k = n := by omega
      have ho' := unhide ho
      rw [List.take_of_length_le (by rw [unhide HN]; omega)] at ho'
      have ho2 := ho'
      rw [← unhide HN] at ho2
      obtain ⟨a, c, rfl, h1, h2⟩ := steps_at ho2
      rw [unhide HN] at h1
      rw [unhide HN]
      clear ho ho' ho2
      go_wp2_with fail
      go_ret
      refine ⟨a, c, ?_, by rw [unhide HN]; exact h1, h2, x1.trans (hb.mono x1.size)⟩
      rw [unhide HN]
      rfl

end Go.Proofs.YtdklfodccdmmlaaDoor
