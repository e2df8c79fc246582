/- Layer 3: From and FromExact once more: what they answer lies in a row of its own that may be written and grown. -/
import Derived.Test.YtlfcplipnmclhabDoorUow
namespace Go.Proofs.YtlfcplipnmclhabDoor
open Go.ChangeShapes Go.WideShapes Go.ChangeAt Go.RowKit

theorem Own.rwX {w : World} {B N : Nat} {v : Value} {l : List Int} (h : Own w B v l) (_hl : ∀ x ∈ l, 0 ≤ x ∧ x ≤ 255) (hN : l.length ≤ N) : RwX .u8 N w v := by
  have hh := h
  rcases h.2 with ⟨rfl, _⟩ | ⟨g, cap, cur, rfl, _, hg, hc, hm, hs, ht⟩
  · exact Or.inl rfl
  · refine Or.inr ⟨g, l.length, cap, rfl, hN, heap_lt hg, hc, fun i hi => ⟨?_, ?_⟩, fun i hi => ⟨l.getD i 0, ?_⟩⟩
    · simp only [World.cell?, hg]; simp; omega
    · simp [World.frozen?, hg]
    · have := World.ownsRow.cells hh rfl i (.int .u8 (l.getD i 0)) (by simp [List.getElem?_eq_getElem hi, List.getD])
      rwa [Addr.add_lit, Nat.zero_add] at this
theorem OwnU.rwX {w : World} {B N : Nat} {v : Value} {l : List Int} (h : OwnU w B v l) (hN : l.length ≤ N) : RwX .u16 N w v := by
  have hh := h
  rcases h.2 with ⟨rfl, _⟩ | ⟨g, cap, cur, rfl, _, hg, hc, hm, hs, ht⟩
  · exact Or.inl rfl
  · refine Or.inr ⟨g, l.length, cap, rfl, hN, heap_lt hg, hc, fun i hi => ⟨?_, ?_⟩, fun i hi => ⟨l.getD i 0, ?_⟩⟩
    · simp only [World.cell?, hg]; simp; omega
    · simp [World.frozen?, hg]
    · have := World.ownsRow.cells hh rfl i (.int .u16 (l.getD i 0)) (by simp [List.getElem?_eq_getElem hi, List.getD])
      rwa [Addr.add_lit, Nat.zero_add] at this
theorem RwX.lt {k : IntKind} {N : Nat} {W : World} {v : Value} (h : RwX k N W v) {g : Nat} (hg : v.ownBlock = some g) : g < W.heap.size := by
  rcases h with rfl | ⟨g', n, cap, rfl, _, h2, _⟩
  · cases hg
  · cases hg; exact h2
theorem RwX.kept {k : IntKind} {N : Nat} {W W' : World} {v : Value} {row : Option Nat} (h : RwX k N W v) (hg : W.grownBy W' row) (hne : v.ownBlock = none ∨ v.ownBlock ≠ row) : RwX k N W' v := by
  rcases h with rfl | ⟨g, n, cap, rfl, h1, h2, h3, h4, h5⟩
  · exact Or.inl rfl
  · have e : W'.heap[g]? = W.heap[g]? := hg.block g h2 (by simpa [Value.ownBlock] using hne)
    have ec : ∀ i, W'.cell? ⟨g, i, none⟩ = W.cell? ⟨g, i, none⟩ := fun i => World.cell?_of_block (a := ⟨g, i, none⟩) e
    have ef : ∀ i, W'.frozen? ⟨g, i, none⟩ = W.frozen? ⟨g, i, none⟩ := fun i => by simp only [World.frozen?, e]
    exact Or.inr ⟨g, n, cap, rfl, h1, Nat.lt_of_lt_of_le h2 hg.size, h3, fun i hi => ⟨by rw [ec]; exact (h4 i hi).1, by rw [ef]; exact (h4 i hi).2⟩, fun i hi => by rw [ec]; exact h5 i hi⟩
theorem RwX.below {k : IntKind} {N : Nat} {W W' : World} {v : Value} (h : RwX k N W v) (hb : Below W.heap.size W W') : RwX k N W' v := h.kept (grown_below none hb) (Classical.em _)

theorem run_toBytesX (W : World) (l : List Int) (hl : ∀ x ∈ l, 0 ≤ x ∧ x ≤ 255) (hn : l.length ≤ 4194304) :
    ∃ c W', (convert 9 30 (.string (strOfNums l))).run Tryd.prog W = .ok (.slice (some ⟨W.heap.size, 0, none⟩) l.length c) W' ∧ IsB W' (some ⟨W.heap.size, 0, none⟩) c l ∧ Below W.heap.size W W' ∧ RwX .u8 4194304 W' (.slice (some ⟨W.heap.size, 0, none⟩) l.length c) := by
  obtain ⟨c, W', h1, h2, h3⟩ := run_toBytes W l hl (by omega)
  have hr := run_bytes_of_string (P := Tryd.prog) W 9 30 5 (strOfNums l) Tryd.underlying9 Tryd.underlying30 Tryd.underlying5
  rw [strOfNums_size] at hr
  rw [hr] at h1
  cases h1
  have hge := grownCap_ge W l.length 0 5
  have hsz : (bytesRow (strOfNums l) (grownCap W l.length 0 5)).size = grownCap W l.length 0 5 := by
    unfold bytesRow
    rw [Array.size_append, Array.size_map, Array.size_replicate]
    show (strOfNums l).size + _ = _
    rw [strOfNums_size]; omega
  refine ⟨_, _, hr, h2, h3, Or.inr ⟨_, _, _, rfl, hn, by simp, hge, fun i hi => ⟨?_, ?_⟩, fun i hi => ⟨l.getD i 0, ?_⟩⟩⟩
  · refine (congrArg Option.isSome (World.cell?_alloc_mark W.drew _ 5 _ i)).trans ?_
    rw [Array.getElem?_eq_getElem (by rw [hsz]; exact hi)]
    rfl
  · have e : (W.drew.alloc (.cells (bytesRow (strOfNums l) (grownCap W l.length 0 5)) 5 ((bytesRow (strOfNums l) (grownCap W l.length 0 5)).size, (bytesRow (strOfNums l) (grownCap W l.length 0 5)).size + 1))).heap[W.heap.size]? = _ := heap_alloc_new W.drew _
    simp only [World.frozen?]
    rw [e, hsz]
    simp only [Bool.and_eq_false_iff, decide_eq_false_iff_not]
    left; omega
  · rcases h2.2.2.1 with h | ⟨g, off, e, hL⟩
    · rw [h] at hi; cases hi
    · cases e
      have := (hL i hi).1
      rwa [Nat.zero_add] at this

/-- what From and FromExact answer, and where it lies -/
def answX (B : Nat) (W' : World) (e : Ending) (t : List Int × Nat × Int) : Prop := ∃ a c, e = .returned (.tuple #[.slice a t.1.length c, .int .i64 (t.2.1 : Nat), .int .i64 t.2.2]) ∧ IsB W' a c t.1 ∧ RwX .u8 4194304 W' (.slice a t.1.length c) ∧ ∀ g, (Value.slice a t.1.length c).ownBlock = some g → B ≤ g ∧ g < W'.heap.size
theorem answX_none (B : Nat) (W' : World) (p : Nat) (e : Int) : answX B W' (.returned (.tuple #[.slice none 0 0, .int .i64 p, .int .i64 e])) ([], p, e) := ⟨none, 0, rfl, isB_none _, Or.inl rfl, fun g h => by cases h⟩

set_option maxHeartbeats 1000000 in
theorem From_own (a0 : Option Addr) (cap : Nat) (u : List Int) (w : World) (hU : IsU w a0 cap u) (hl : u.length ≤ 1048576) :
    Calls Tryd.prog 11 #[.slice a0 u.length cap] w fun e w' => answX w.heap.size w' e (fromL u) ∧ Below w.heap.size w w' := by
  have hcap := hU.1
  obtain ⟨w2, hm, o2, b2⟩ := make_i32 w u.length (by omega)
  have HO : Hid (OwnI w2 w.heap.size (.slice (some ⟨w.heap.size, 0, none⟩) 0 u.length) []) := o2
  clear o2
  have HF : Hid (fromL u = rd (itF u) u.length 0 []) := hide rfl
  go_enter Tryd.func11, Tryd.ntmps11
  go_wp2_with fail
  clear hm
  have s2 := b2.size
  go_loopw [5, 6] (fun v i wx => ∃ (p g c : Nat) (rs : List Int), p ≤ u.length ∧ i = .int .i64 p ∧ v = .slice (some ⟨g, 0, none⟩) rs.length c ∧ Hid (fromL u = rd (itF u) u.length p (rs.flatMap enc)) ∧ Hid (OwnI wx w.heap.size v rs) ∧ rs.length ≤ p ∧ Below w.heap.size w wx) (fun _ i _ => u.length - (intOf i).toNat)
  case atStart => exact ⟨0, _, _, [], Nat.zero_le _, rfl, rfl, HF, HO, Nat.le_refl _, b2⟩
  case round =>
    obtain ⟨p, g, c, rs, hp, rfl, rfl, hf, ho, hlr, hb⟩ := hrel
    clear HO HF b2
    have hsz := hb.size
    by_cases hlt : p < u.length
    · obtain ⟨gu, ou, rfl, hL, hgu⟩ := hU.lies (by omega)
      have hLx := hL.below hb hgu
      have hpc : ¬ cap = p := by omega
      have hpc2 : p ≤ cap := by omega
      have hfl := fstU_le (u.drop p)
      rw [List.length_drop] at hfl
      have HI : Hid (itF u p = if (fstU (u.drop p)).2 = 0 then .bad 30 else .ok (enc (fstU (u.drop p)).1) ((fstU (u.drop p)).2 - 1)) := hide rfl
      have HC := hide (ufirst_from gu ou cap p u wr hlt (by unfold maxLen; omega) hLx)
      unfold fstV at HC
      generalize (fstU (u.drop p)).1 = r at *
      generalize (fstU (u.drop p)).2 = n at *
      clear hL hLx
      by_cases h0 : n = 0
      · have hn0 : ((n : Int) == 0) = true := by simp [h0]
        have hres := unhide hf
        rw [rd_bad hlt ((unhide HI).trans (if_pos h0))] at hres
        have HRES := hide hres
        clear hres h0
        go_wp2_with fail
        refine (unhide HC).mono ?_
        rintro e w3 ⟨rfl, k3, rfl⟩
        go_wp2
        go_ret3
        rw [unhide HRES]
        exact ⟨answX_none _ _ _ _, Below.drewN hb _⟩
      · have hn0 : ((n : Int) == 0) = false := by rw [beq_eq_false_iff_ne]; omega
        have hres := unhide hf
        rw [rd_ok hlt ((unhide HI).trans (if_neg h0)), show p + (n - 1 + 1) = p + n by omega] at hres
        have HRES := hide hres
        clear hres
        go_wp2_with fail
        refine (unhide HC).mono ?_
        rintro e w3 ⟨rfl, k3, rfl⟩
        obtain ⟨g4, c4, w4, r4, o4, b4⟩ := push_i32 (wr.drewN k3) w.heap.size _ rs r 45 (unhide ho) (by omega) hsz
        have R4 := hide r4
        clear r4 hn0
        have hn1 : ((n : Int) == 0) = false := by rw [beq_eq_false_iff_ne]; omega
        go_wp2_with (at_builtin; refine wpList_append_known rfl _ _ 45 45 rfl _ _ rfl rfl _ _ (unhide R4) ?_)
        go_roundw
        case rel => exact ⟨p + n, g4, c4, rs ++ [r], by omega, by go_num, by simp, by rw [List.flatMap_append, List.flatMap_singleton]; exact HRES, by simpa using hide o4, by simp; omega, (Below.drewN hb k3).trans b4⟩
        case measure => simp [intOf]; omega
    · obtain rfl : p = u.length := by omega
      have hres := unhide hf
      rw [rd_end hlt] at hres
      have HRES := hide hres
      have kb := run_back wr g c rs (unhide ho).runes
      have hel := encs_len rs
      obtain ⟨c5, w5, r5, i5, b5, q5⟩ := run_toBytesX wr (rs.flatMap enc) (encs_in rs) (by omega)
      have z5 : wr.heap.size < w5.heap.size := q5.lt rfl
      clear hres hf ho hel
      generalize rs.flatMap enc = bs at *
      go_wp2
      go_ret3
      rw [unhide HRES]
      exact ⟨⟨_, _, rfl, i5, q5, fun g e => by cases e; exact ⟨hsz, z5⟩⟩, hb.trans (b5.mono hsz)⟩

set_option maxHeartbeats 1000000 in
theorem FromExact_own (a0 : Option Addr) (cap : Nat) (u : List Int) (w : World) (hU : IsU w a0 cap u) (hl : u.length ≤ 1048576) (hT : Tab w) :
    Calls Tryd.prog 12 #[.slice a0 u.length cap] w fun e w' => answX w.heap.size w' e (exactL u) ∧ Below w.heap.size w w' := by
  have hcap := hU.1
  obtain ⟨w2, hm, o2, b2⟩ := make_u8 w u.length (by omega)
  have HO : Hid (Own w2 w.heap.size (.slice (some ⟨w.heap.size, 0, none⟩) 0 u.length) []) := o2
  clear o2
  have HF : Hid (exactL u = rd (itX u) u.length 0 []) := hide rfl
  have HU := hide hU.2.2
  go_enter Tryd.func12, Tryd.ntmps12
  go_wp2_with fail
  clear hm
  go_loopw [5, 6] (fun v i wx => ∃ (p : Nat) (bs : List Int), p ≤ u.length ∧ i = .int .i64 p ∧ Hid (exactL u = rd (itX u) u.length p bs) ∧ Hid (Own wx w.heap.size v bs) ∧ bs.length ≤ 4 * p ∧ Hid (∀ x ∈ bs, 0 ≤ x ∧ x ≤ 255) ∧ Below w.heap.size w wx) (fun _ i _ => u.length - (intOf i).toNat)
  case atStart => exact ⟨0, [], Nat.zero_le _, rfl, HF, HO, Nat.zero_le _, hide (fun x h => by cases h), b2⟩
  case round =>
    obtain ⟨p, bs, hp, rfl, hf, ho, hlr, hin, hb⟩ := hrel
    clear HO HF b2
    have hsz := hb.size
    by_cases hlt : p < u.length
    · obtain ⟨gu, ou, rfl, hL, hgu⟩ := hU.lies (by omega)
      have hLx := hL.below hb hgu
      have hpc : ¬ cap = p := by omega
      have hpc2 : p ≤ cap := by omega
      have hfl := fstU_le (u.drop p)
      rw [List.length_drop] at hfl
      have hru : (fstU (u.drop p)).2 ≠ 0 → isRune (fstU (u.drop p)).1 = true := fstU_rune (fun x hx => unhide HU x (List.mem_of_mem_drop hx))
      have HRU := hide hru
      have hc := (hLx p hlt).1
      have HI : Hid (itX u p = if (fstU (u.drop p)).2 = 0 then (if isBu (u.getD p 0) then (if jn (u.drop p) then .bad 31 else .ok [ubyt (u.getD p 0)] 0) else .bad 30) else .ok (enc (fstU (u.drop p)).1) ((fstU (u.drop p)).2 - 1)) := hide rfl
      have HC := hide (ufirst_from gu ou cap p u wr hlt (by unfold maxLen; omega) hLx)
      have HJN := hide (fun n h => joins_from gu ou cap p u (wr.drewN n) hlt (by unfold maxLen; omega) hcap hLx h (Tab.drewN (hT.below hb hT.size) n))
      unfold fstV at HC
      clear hru
      generalize (fstU (u.drop p)).1 = r at *
      generalize (fstU (u.drop p)).2 = n at *
      generalize jn (u.drop p) = j at *
      generalize u.getD p 0 = x at *
      clear hL hLx
      by_cases h0 : n = 0
      · have hn0 : decide ((n : Int) > 0) = false := by simp [h0]
        have hn1 : ¬ ((n : Int) > 0) := by omega
        have HI2 : Hid (itX u p = _) := hide ((unhide HI).trans (if_pos h0))
        cases hx : isBu x with
        | false =>
          have hres := unhide hf
          rw [rd_bad hlt ((unhide HI2).trans (if_neg (by simp [hx])))] at hres
          have HRES := hide hres
          clear hres h0
          go_wp2_with fail
          refine (unhide HC).mono ?_
          rintro e w3 ⟨rfl, k3, rfl⟩
          go_wp2_with (go_at_call 27; refine (isByteUnit_any _ _).mono ?_; rintro e w' ⟨rfl, rfl⟩)
          go_ret3
          rw [unhide HRES]
          exact ⟨answX_none _ _ _ _, Below.drewN hb _⟩
        | true =>
          have HI3 : Hid (itX u p = _) := hide ((unhide HI2).trans (if_pos hx))
          have HX := hide hx
          cases j with
          | true =>
            have hres := unhide hf
            rw [rd_bad hlt ((unhide HI3).trans (if_pos rfl))] at hres
            have HRES := hide hres
            clear hres h0
            go_wp2_with fail
            refine (unhide HC).mono ?_
            rintro e w3 ⟨rfl, k3, rfl⟩
            go_wp2_with (first
              | (go_at_call 27; refine (isByteUnit_any _ _).mono ?_; rintro e w' ⟨rfl, rfl⟩)
              | (go_at_call 28; refine (unhide HJN _ (unhide HX)).mono ?_; rintro e w5 ⟨rfl, b5⟩))
            go_ret3
            rw [unhide HRES]
            exact ⟨answX_none _ _ _ _, (Below.drewN hb k3).trans (b5.mono hsz)⟩
          | false =>
            have hx2 : 56448 ≤ x ∧ x ≤ 56575 := of_decide_eq_true hx
            obtain ⟨x1, x2⟩ := hx2
            have hres := unhide hf
            rw [rd_ok hlt ((unhide HI3).trans (if_neg (by simp)))] at hres
            have HRES := hide hres
            clear hres h0
            go_wp2_with fail
            refine (unhide HC).mono ?_
            rintro e w3 ⟨rfl, k3, rfl⟩
            go_wp2_with (first
              | (go_at_call 27; refine (isByteUnit_any _ _).mono ?_; rintro e w' ⟨rfl, rfl⟩)
              | (go_at_call 28; refine (unhide HJN _ (unhide HX)).mono ?_; rintro e w5 ⟨rfl, b5⟩
                 have hc5 : w5.cell? ⟨gu, ou + p, none⟩ = some (.int .u16 x) := (b5.cell (p := ⟨gu, ou + p, none⟩) (Nat.lt_of_lt_of_le hgu hsz)).trans hc
                 obtain ⟨v6, w6, r6, o6, b6⟩ := (Own.below (w := wr.drewN k3) (unhide ho) b5).push1 (x - 56320) (by omega) (Nat.le_trans hsz b5.size); have R6 := hide r6; clear r6)
              | (go_at_call 29; refine (byteOf_any _ _ x1 x2).mono ?_; rintro e w' ⟨rfl, rfl⟩)
              | (at_builtin; refine wpList_append_known rfl _ _ 30 30 rfl _ _ rfl rfl _ _ (unhide R6) ?_))
            go_roundw
            case rel => exact ⟨p + 1, bs ++ [ubyt x], by omega, by go_num, HRES, hide o6, by simp; omega, hide (fun y hy => by rcases List.mem_append.1 hy with h | h; exact unhide hin y h; rw [List.mem_singleton] at h; rw [h]; unfold ubyt; omega), ((Below.drewN hb k3).trans (b5.mono hsz)).trans b6⟩
            case measure => simp [intOf]; omega
      · have hn1 : (n : Int) > 0 := by omega
        have hn2 : decide ((n : Int) > 0) = true := by simp; omega
        have hres := unhide hf
        rw [rd_ok hlt ((unhide HI).trans (if_neg h0)), show p + (n - 1 + 1) = p + n by omega] at hres
        have HRES := hide hres
        have HR : Hid (isRune r = true) := hide (unhide HRU h0)
        have hel := enc_len r
        clear hres HRU
        go_wp2_with fail
        refine (unhide HC).mono ?_
        rintro e w3 ⟨rfl, k3, rfl⟩
        go_wp2_with fail
        refine (AppendRune_at w.heap.size _ bs r (wr.drewN k3) (unhide ho) (unhide HR) (by omega) hsz).mono ?_
        rintro e w4 ⟨v4, rfl, o4, b4⟩
        go_wp2
        go_roundw
        case rel => exact ⟨p + n, bs ++ enc r, by omega, by go_num, HRES, hide o4, by simp; omega, hide (fun y hy => by rcases List.mem_append.1 hy with h | h; exact unhide hin y h; exact enc_bytes r y h), (Below.drewN hb k3).trans b4⟩
        case measure => simp [intOf]; omega
    · obtain rfl : p = u.length := by omega
      have hres := unhide hf
      rw [rd_end hlt] at hres
      have HRES := hide hres
      obtain ⟨a5, c5, e5, i5⟩ := (unhide ho).isB (unhide hin) (by omega)
      subst e5
      have I5 := hide i5
      have Q5 := hide ((unhide ho).rwX (unhide hin) (show bs.length ≤ 4194304 by omega))
      have G5 := hide (World.ownsRow.lt (unhide ho))
      clear hres hf ho i5
      go_wp2
      go_ret3
      rw [unhide HRES]
      exact ⟨⟨_, _, rfl, unhide I5, unhide Q5, unhide G5⟩, hb⟩

end Go.Proofs.YtlfcplipnmclhabDoor
