/- The walk of OctetBytes: it answers true wherever the table holds the classes, and changes nothing that was there. -/
import Derived.Test.YtgebpboimecdhaaDoorAwa
import Derived.Test.YtgebpboimecdhaaDoorRefV
import Derived.Deep.RegionWith
namespace Go.Proofs.YtgebpboimecdhaaDoor
open Go.ChangeShapes Go.WideShapes Go.ChangeAt Go.RowKit

theorem enc_byte (r : Int) : ∀ x ∈ enc r, 0 ≤ x ∧ x ≤ 255 := by
  by_cases hr : 0 ≤ r ∧ r < 55296 ∨ 57343 < r ∧ r ≤ 1114111
  · by_cases a1 : r < 128
    · rw [enc_1 (by omega) a1]; simp; omega
    · by_cases a2 : r < 2048
      · rw [enc_2 (by omega) a2]; simp; omega
      · by_cases a3 : r < 65536
        · rw [enc_3 (by omega) a3 (by omega)]; simp; omega
        · rw [enc_4 (by omega) (by omega)]; simp; omega
  · rw [enc_bad hr]; simp
theorem made_size (w : World) (l : List Int) : (madeW w l).heap.size = w.heap.size + 1 := by simp [madeW]

set_option maxHeartbeats 400000 in
theorem OctetBytes_any (r : Int) (w : World) (wr : (Lit.int .i32 r).wf = true) (hT : Tab w) :
    Calls Tryd.prog 5 #[.int .i32 r] w fun e w' => e = .returned (.bool true) ∧ Below w.heap.size w w' := by
  have hb := bounds_i32 wr
  obtain ⟨h0, h1⟩ := hb
  have k1 := fun (W : World) => str_made W (enc r) (madeW W (enc r)) (lies_made W _ (enc_byte r))
  have k2 := fun (W : World) => str_made W (enc r) (madeW (madeW W (enc r)) (enc r)) ((lies_made W _ (enc_byte r)).below (Below.made (Below.refl _ _) (Nat.le_refl _) _) (by rw [made_size]; omega))
  go_enter Tryd.func5, Tryd.ntmps5
  go_wp2_with (go_at_call 9; refine (awake_any _ hT).mono ?_; rintro e w1 ⟨rfl, b1⟩)
  go_region_with (first
    | (go_at_call 20; refine (Bytes_any _ _ (by omega) (by omega)).mono ?_; rintro e w' ⟨rfl, rfl⟩)
    | (go_at_call 21; refine (RBytes_any _ _ (by omega) (by omega)).mono ?_; rintro e w' ⟨rfl, rfl⟩))
  all_goals
    go_wp2
    go_ret
    refine ⟨ret_bool (by simp), ?_⟩
    exact Below.made (Below.made b1.drew (by exact b1.size) _) (by rw [made_size]; exact Nat.le_succ_of_le b1.size) _

end Go.Proofs.YtgebpboimecdhaaDoor
