/- Layer 3: contract of units.From. -/
import Derived.Test.YtlfcplipnmclhaaDoorUnt
namespace Go.Proofs.YtlfcplipnmclhaaDoor
open Go.ChangeShapes Go.WideShapes Go.ChangeAt Go.RowKit

/-- v is a []rune of the call's own -/
def OwnI (w : World) (B : Nat) (v : Value) (l : List Int) : Prop := w.ownsRow B 21 1 v l.length (l.map (Value.int .i32))
theorem push_i32 (W : World) (B : Nat) (v : Value) (l : List Int) (x : Int) (ty : TypeId) (h : OwnI W B v l) (hn : l.length ≤ 8388608) (hB : B ≤ W.heap.size) :
    ∃ g c W', (Builtin.append_ #[50, 50] ty #[v, .slice (some ⟨W.heap.size, 0, none⟩) 1 1]).run Tryd.prog (W.alloc (.cells #[.int .i32 x] 21)) = .ok (.slice (some ⟨g, 0, none⟩) (l ++ [x]).length c) W' ∧
      OwnI W' B (.slice (some ⟨g, 0, none⟩) (l ++ [x]).length c) (l ++ [x]) ∧ Below B W W' := by
  obtain ⟨i, hi, hz, hs, hby⟩ := info_i32
  have hr := World.ownsRow.alloc h (.cells #[.int .i32 x] 21)
  obtain ⟨g, c, W', hrun, ho, hg, _, _⟩ := run_append_lies (P := Tryd.prog) (W.alloc (.cells #[.int .i32 x] 21)) 50 ty B 21 i (.int .i32 0) 1 4 Tryd.underlying50 hi hz hs hby rfl (by decide)
    v l.length (l.map (Value.int .i32)) hr ⟨W.heap.size, 0, none⟩ 1 1 [.int .i32 x] rfl
    (fun j u hj => by
      cases j with
      | zero => simp at hj; subst hj; rw [Addr.add_lit]; exact (World.cell?_alloc_mark W _ _ (0, 0) 0).trans rfl
      | succ j => simp at hj)
    (fun u hu => by simp at hu; subst hu; rfl) (by decide) (by unfold maxLen; omega) (by omega) (by simp; omega) _ rfl
  refine ⟨g, c, W', by rw [List.length_append]; exact hrun, ?_, ((Below.refl B W).alloc hB _).grown hg (by simp; omega) (fun k hk => (hr.lt k hk).1)⟩
  unfold OwnI
  rw [List.length_append, List.map_append]
  exact ho
theorem OwnI.runes {w : World} {B g n c : Nat} {l : List Int} (h : OwnI w B (.slice (some ⟨g, 0, none⟩) n c) l) : RunesAt w (some ⟨g, 0, none⟩) l := by
  have hc := h
  rcases h.2 with ⟨h1, h0⟩ | ⟨g', cap, cur, hv, _, hg, hle, _⟩
  · cases h1
  · cases hv
    refine Or.inr ⟨g, rfl, heap_lt hg, fun k hk => ?_⟩
    have := World.ownsRow.cells hc rfl k (.int .i32 (l.getD k 0)) (by simp [List.getElem?_eq_getElem hk, List.getD])
    rwa [Addr.add_lit, Nat.zero_add] at this
theorem encs_in (rs : List Int) : ∀ x ∈ rs.flatMap enc, 0 ≤ x ∧ x ≤ 255 := by
  intro x hx
  obtain ⟨r, _, hr⟩ := List.mem_flatMap.1 hx
  exact enc_bytes r x hr
theorem enc_len (r : Int) : (enc r).length ≤ 4 ∧ 1 ≤ (enc r).length := enc_cases r (p := fun l => l.length ≤ 4 ∧ 1 ≤ l.length) (by simp) (by simp) (by simp) (by simp) (by simp)
theorem encs_len : ∀ rs : List Int, (rs.flatMap enc).length ≤ 4 * rs.length
  | [] => by simp
  | r :: rs => by
    have := encs_len rs
    have := (enc_len r).1
    rw [List.flatMap_cons, List.length_append, List.length_cons]
    omega
theorem IsU.lies {w : World} {a0 : Option Addr} {cap : Nat} {l : List Int} (h : IsU w a0 cap l) (h0 : 0 < l.length) : ∃ g off, a0 = some ⟨g, off, none⟩ ∧ LiesU w g off l ∧ g < w.heap.size := by
  rcases h.2.1 with h1 | ⟨g, off, e, hL⟩
  · rw [h1] at h0; cases h0
  · exact ⟨g, off, e, hL, hL.lt h0⟩
theorem ufirst_from (g off cap q : Nat) (l : List Int) (w : World) (h0 : q < l.length) (hm : l.length ≤ maxLen) (hL : LiesU w g off l) :
    Calls Tryd.prog 37 #[.slice (some ⟨g, off + q, none⟩) (l.length - q) (cap - q)] w fun e w' => e = .returned (fstV (l.drop q)) ∧ ∃ n, w' = w.drewN n := by
  have := ufirst_at g (off + q) (cap - q) (l.drop q) w (by simp; omega) (by simp; omega) (hL.drop q)
  rwa [List.length_drop] at this

/-- what From and FromExact answer -/
def answ (W' : World) (e : Ending) (t : List Int × Nat × Int) : Prop := ∃ a c, e = .returned (.tuple #[.slice a t.1.length c, .int .i64 (t.2.1 : Nat), .int .i64 t.2.2]) ∧ IsB W' a c t.1
theorem isB_none (W : World) : IsB W none 0 [] := ⟨Nat.le_refl _, Nat.zero_le _, Or.inl rfl, fun _ h => by cases h⟩

set_option maxHeartbeats 1000000 in
theorem From_at (a0 : Option Addr) (cap : Nat) (u : List Int) (w : World) (hU : IsU w a0 cap u) (hl : u.length ≤ 4194304) :
    Calls Tryd.prog 21 #[.slice a0 u.length cap] w fun e w' => answ w' e (fromL u) ∧ Below w.heap.size w w' := by
  have hcap := hU.1
  obtain ⟨w2, hm, o2, b2⟩ := make_i32 w u.length (by omega)
  have HO : Hid (OwnI w2 w.heap.size (.slice (some ⟨w.heap.size, 0, none⟩) 0 u.length) []) := o2
  clear o2
  have HF : Hid (fromL u = rd (itF u) u.length 0 []) := hide rfl
  go_enter Tryd.func21, Tryd.ntmps21
  go_wp2_with fail
  clear hm
  have s2 := b2.size
  go_loopw [5, 6] (fun v i wx => ∃ (p g c : Nat) (rs : List Int), p ≤ u.length ∧ i = .int .i64 p ∧ v = .slice (some ⟨g, 0, none⟩) rs.length c ∧ Hid (fromL u = rd (itF u) u.length p (rs.flatMap enc)) ∧ Hid (OwnI wx w.heap.size v rs) ∧ rs.length ≤ p ∧ Below w.heap.size w wx) (fun _ i _ => u.length - (intOf i).toNat)
  case atStart => exact ⟨0, _, _, [], Nat.zero_le _, rfl, rfl, HF, HO, Nat.le_refl _, b2⟩
  case round =>
    obtain ⟨p, g, c, rs, hp, rfl, rfl, hf, ho, hlr, hb⟩ := hrel
    clear HO HF b2
    have hsz := hb.size
    by_cases hlt : p < u.length
    · obtain ⟨gu, ou, rfl, hL, hgu⟩ := hU.lies (by omega)
      have hLx := hL.below hb hgu
      have hpc : ¬ cap = p := by omega
      have hpc2 : p ≤ cap := by omega
      have hfl := fstU_le (u.drop p)
      rw [List.length_drop] at hfl
      have HI : Hid (itF u p = if (fstU (u.drop p)).2 = 0 then .bad 30 else .ok (enc (fstU (u.drop p)).1) ((fstU (u.drop p)).2 - 1)) := hide rfl
      have HC := hide (ufirst_from gu ou cap p u wr hlt (by unfold maxLen; omega) hLx)
      unfold fstV at HC
      generalize (fstU (u.drop p)).1 = r at *
      generalize (fstU (u.drop p)).2 = n at *
      clear hL hLx
      by_cases h0 : n = 0
      · have hn0 : ((n : Int) == 0) = true := by simp [h0]
        have hres := unhide hf
        rw [rd_bad hlt ((unhide HI).trans (if_pos h0))] at hres
        have HRES := hide hres
        clear hres h0
        go_wp2_with fail
        refine (unhide HC).mono ?_
        rintro e w3 ⟨rfl, k3, rfl⟩
        go_wp2
        go_ret3
        rw [unhide HRES]
        exact ⟨⟨none, 0, rfl, isB_none _⟩, Below.drewN hb _⟩
      · have hn0 : ((n : Int) == 0) = false := by rw [beq_eq_false_iff_ne]; omega
        have hres := unhide hf
        rw [rd_ok hlt ((unhide HI).trans (if_neg h0)), show p + (n - 1 + 1) = p + n by omega] at hres
        have HRES := hide hres
        clear hres
        go_wp2_with fail
        refine (unhide HC).mono ?_
        rintro e w3 ⟨rfl, k3, rfl⟩
        obtain ⟨g4, c4, w4, r4, o4, b4⟩ := push_i32 (wr.drewN k3) w.heap.size _ rs r 50 (unhide ho) (by omega) hsz
        have R4 := hide r4
        clear r4 hn0
        have hn1 : ((n : Int) == 0) = false := by rw [beq_eq_false_iff_ne]; omega
        go_wp2_with (at_builtin; refine wpList_append_known rfl _ _ 50 50 rfl _ _ rfl rfl _ _ (unhide R4) ?_)
        go_roundw
        case rel => exact ⟨p + n, g4, c4, rs ++ [r], by omega, by go_num, by simp, by rw [List.flatMap_append, List.flatMap_singleton]; exact HRES, by simpa using hide o4, by simp; omega, (Below.drewN hb k3).trans b4⟩
        case measure => simp [intOf]; omega
    · obtain rfl : p = u.length := by omega
      have hres := unhide hf
      rw [rd_end hlt] at hres
      have HRES := hide hres
      have kb := run_back wr g c rs (unhide ho).runes
      have hel := encs_len rs
      obtain ⟨c5, w5, r5, i5, b5⟩ := run_toBytes wr (rs.flatMap enc) (encs_in rs) (by omega)
      clear hres hf ho hel
      generalize rs.flatMap enc = bs at *
      go_wp2
      go_ret3
      rw [unhide HRES]
      exact ⟨⟨_, _, rfl, i5⟩, hb.trans (b5.mono hsz)⟩

end Go.Proofs.YtlfcplipnmclhaaDoor
