/- Layer 3: the document's answer: From, joins, FromExact. -/
import Derived.Test.YtlfcplipnmclhaaDoorRf4
namespace Go.Proofs.YtlfcplipnmclhaaDoor
open Go.ChangeShapes Go.WideShapes Go.ChangeAt Go.RowKit

/-- append(v, m...) where v is the call's own, and m lies somewhere -/
theorem push_more (W : World) (B : Nat) (v : Value) (l m : List Int) (g c : Nat) (ty : TypeId) (h : Own W B v l) (hL : Lies W g 0 m) (hn : l.length ≤ 140737488350000) (hm : m.length ≤ 4) (h0 : 0 < m.length) (hB : B ≤ W.heap.size) :
    ∃ v' W', (Builtin.append_ #[30, 30] ty #[v, .slice (some ⟨g, 0, none⟩) m.length c]).run Tryd.prog W = .ok v' W' ∧ Own W' B v' (l ++ m) ∧ Below B W W' := by
  obtain ⟨i, hi, hz, hs, hby⟩ := info_u8
  obtain ⟨g', c', w', hr, ho, hg, hat, hlt⟩ := run_append_lies (P := Tryd.prog) W 30 ty B 5 i (.int .u8 0) 1 1 Tryd.underlying30 hi hz hs hby rfl (by decide)
    v l.length (l.map (Value.int .u8)) h ⟨g, 0, none⟩ m.length c (m.map (Value.int .u8)) (by simp) (src_cells hL) (src_some _ g 0 c m hL).one h0 (by unfold maxLen; omega) (by omega) hB W.heap.size rfl
  refine ⟨_, w', hr, ?_, (Below.refl B W).grown hg hB (fun k e => (World.ownsRow.lt h k e).1)⟩
  unfold Own
  simpa using ho
theorem RBytes_fresh (r : Int) (w : World) (h0 : -2147483648 ≤ r) (h1 : r ≤ 2147483647) :
    Calls Tryd.prog 27 #[.int .i32 r] w fun e w' => ∃ g, e = .returned (.slice (some ⟨g, 0, none⟩) (enc r).length (enc r).length) ∧ Lies w' g 0 (enc r) ∧ Below w.heap.size w w' :=
  (RBytes_any r w h0 h1).mono fun e w' h => by
    obtain ⟨rfl, rfl⟩ := h
    exact ⟨w.heap.size, rfl, lies_made w _ (enc_bytes r), Below.made (Below.refl _ _) (Nat.le_refl _) _⟩

set_option maxHeartbeats 1000000 in
theorem RFrom_at (a0 : Option Addr) (cap : Nat) (u : List Int) (w : World) (hU : IsU w a0 cap u) (hl : u.length ≤ 4194304) :
    Calls Tryd.prog 23 #[.slice a0 u.length cap] w fun e w' => answ w' e (fromL u) ∧ Below w.heap.size w w' := by
  have HF : Hid (fromL u = rd (itF u) u.length 0 []) := hide rfl
  have HU := hide hU.2.2
  go_enter Tryd.func23, Tryd.ntmps23
  go_wp2_with fail
  go_loopw [5, 6] (fun v i wx => ∃ (p : Nat) (bs : List Int), p ≤ u.length ∧ i = .int .i64 p ∧ Hid (fromL u = rd (itF u) u.length p bs) ∧ Hid (Own wx w.heap.size v bs) ∧ bs.length ≤ 4 * p ∧ Hid (∀ x ∈ bs, 0 ≤ x ∧ x ≤ 255) ∧ Below w.heap.size w wx) (fun _ i _ => u.length - (intOf i).toNat)
  case atStart => exact ⟨0, [], Nat.zero_le _, rfl, HF, hide (World.ownsRow_nil _ _ _ _), Nat.zero_le _, hide (fun x h => by cases h), Below.refl _ _⟩
  case round =>
    obtain ⟨p, bs, hp, rfl, hf, ho, hlr, hin, hb⟩ := hrel
    clear HF
    have hsz := hb.size
    by_cases hlt : p < u.length
    · obtain ⟨gu, ou, rfl, hL, hgu⟩ := hU.lies (by omega)
      have hLx := hL.below hb hgu
      have hfl := fstU_le (u.drop p)
      rw [List.length_drop] at hfl
      have hru : (fstU (u.drop p)).2 ≠ 0 → isRune (fstU (u.drop p)).1 = true := fstU_rune (fun x hx => unhide HU x (List.mem_of_mem_drop hx))
      have HRU := hide hru
      have HI : Hid (itF u p = if (fstU (u.drop p)).2 = 0 then .bad 30 else .ok (enc (fstU (u.drop p)).1) ((fstU (u.drop p)).2 - 1)) := hide rfl
      have HLO := hide (lone_at gu ou cap p u wr hlt hl hLx)
      have HAT := hide (uat_at gu ou cap p u wr hlt hl hLx)
      unfold fstV at HAT
      clear hru hL hLx
      generalize (fstU (u.drop p)).1 = r at *
      generalize (fstU (u.drop p)).2 = n at *
      by_cases h0 : n = 0
      · have hres := unhide hf
        rw [rd_bad hlt ((unhide HI).trans (if_pos h0))] at hres
        have HRES := hide hres
        rw [decide_eq_true h0] at HLO
        clear hres h0
        go_wp2_with (go_at_call 38; refine (unhide HLO).mono ?_; rintro e wr ⟨rfl, rfl⟩)
        go_ret3
        rw [unhide HRES]
        exact ⟨⟨none, 0, rfl, isB_none _⟩, hb⟩
      · have hres := unhide hf
        rw [rd_ok hlt ((unhide HI).trans (if_neg h0)), show p + (n - 1 + 1) = p + n by omega] at hres
        have HRES := hide hres
        rw [decide_eq_false h0] at HLO
        have HAT' := hide (unhide HAT h0)
        have hr1 : isRune r = true := unhide HRU h0
        have hr2 : 0 ≤ r ∧ r < 55296 ∨ 57343 < r ∧ r ≤ 1114111 := of_decide_eq_true hr1
        have hel := enc_len r
        clear hres HAT HRU hr1
        go_wp2_with (go_at_call 38; refine (unhide HLO).mono ?_; rintro e wr ⟨rfl, rfl⟩)
        refine (unhide HAT').mono ?_
        rintro e w3 ⟨rfl, k3, rfl⟩
        go_wp2_with fail
        refine (RBytes_fresh r (wr.drewN k3) (by omega) (by omega)).mono ?_
        rintro e w4 ⟨g4, rfl, l4, b4⟩
        have o4 := Own.below (w := wr.drewN k3) (unhide ho) b4
        have y4 := bchain (Nat.le_refl _) (Below.drewN hb k3) b4
        obtain ⟨v5, w5, r5, o5, b5⟩ := push_more w4 w.heap.size _ bs (enc r) g4 (enc r).length 30 o4 l4 (by omega) hel.1 hel.2 y4.size
        have R5 := hide r5
        clear r5 o4 l4
        generalize hle : (enc r).length = m at *
        have HLE := hide hle
        clear hle
        go_wp2_with (at_builtin; refine wpList_append_known rfl _ _ 30 30 rfl _ _ rfl rfl _ _ (unhide R5) ?_)
        go_roundw
        case rel => exact ⟨p + n, bs ++ enc r, by omega, by go_num, HRES, hide o5, by rw [List.length_append, unhide HLE]; omega, hide (fun y hy => by rcases List.mem_append.1 hy with h | h; exact unhide hin y h; exact enc_bytes r y h), y4.trans b5⟩
        case measure => simp [intOf]; omega
    · obtain rfl : p = u.length := by omega
      have hres := unhide hf
      rw [rd_end hlt] at hres
      have HRES := hide hres
      obtain ⟨a5, c5, e5, i5⟩ := (unhide ho).isB (unhide hin) (by omega)
      subst e5
      have I5 := hide i5
      clear hres hf ho i5
      go_wp2
      go_ret3
      rw [unhide HRES]
      exact ⟨⟨_, _, rfl, unhide I5⟩, hb⟩

theorem whole_pos {l : List Int} (h : whole l = true) : 0 < l.length := by
  cases l with
  | nil => cases h
  | cons a r => simp
/-- the byte units begin with an encoding just if the first byte's own number of them is one -/
theorem jn_of {v : List Int} {m : Nat} (hm : m ≤ v.length) (hw : whole ((v.take m).map ubyt) = true) (hall : ∀ y ∈ v.take m, isBu y = true) : jn v = true := by
  have h0 := whole_pos hw
  simp only [List.length_map, List.length_take] at h0
  have hne : need (ubyt (v.getD 0 0)) = m := by
    match v with
    | [] => simp at h0
    | a :: r =>
      match m with
      | 0 => simp at h0
      | m + 1 =>
        simp only [List.take_succ_cons, List.map_cons] at hw
        have := whole_need hw
        simp only [List.length_map, List.length_take, List.length_cons] at this hm
        simp only [List.getD_cons_zero]
        omega
  unfold jn
  rw [hne, Int.toNat_natCast, hw, List.all_eq_true.2 hall]
  simpa using hm
theorem jn_not {v : List Int} {j : Nat} (hno : ∀ m, m ≤ j → whole ((v.take m).map ubyt) = false) (hend : ∀ m, j < m → m ≤ v.length → m ≤ 4 → (v.take m).all isBu = false) : jn v = false := by
  cases h : jn v with
  | false => rfl
  | true =>
    simp only [jn, Bool.and_eq_true, decide_eq_true_eq] at h
    have h4 := need_hi (ubyt (v.getD 0 0))
    rcases Nat.lt_or_ge j (need (ubyt (v.getD 0 0))).toNat with h1 | h1
    · rw [hend _ h1 h.1 (by omega)] at h
      exact absurd h.2.1 (by simp)
    · rw [hno _ h1] at h
      exact absurd h.2.2 (by simp)

set_option maxHeartbeats 1000000 in
theorem Rjoins_at (g off cap p : Nat) (u : List Int) (w : World) (hp : p < u.length) (hm : u.length ≤ 4194304) (hL : LiesU w g off u) :
    Calls Tryd.prog 45 #[.slice (some ⟨g, off, none⟩) u.length cap, .int .i64 p] w fun e w' => e = .returned (.bool (jn (u.drop p))) ∧ Below w.heap.size w w' := by
  have hgl := hL.lt (by omega)
  obtain ⟨n, hn⟩ : ∃ n, u.length = n := ⟨_, rfl⟩
  have HN := hide hn
  rw [hn] at hp hm ⊢
  clear hn
  have hvl : (u.drop p).length = n - p := by rw [List.length_drop, unhide HN]
  have HVL := hide hvl
  clear hvl
  have hget : ∀ j, (u.drop p).getD j 0 = u.getD (p + j) 0 := fun j => by simp [List.getD, List.getElem?_drop]
  have HG := hide hget
  clear hget
  go_enter Tryd.func45, Tryd.ntmps45
  go_wp2_with fail
  go_loopw [5, 6] (fun v i wx => ∃ j q : Nat, j ≤ 4 ∧ q ≤ n ∧ Hid (q = p + j) ∧ i = .int .i64 q ∧ Hid (∀ y ∈ (u.drop p).take j, isBu y = true) ∧ Hid (∀ m, m ≤ j → whole (((u.drop p).take m).map ubyt) = false) ∧ Hid (Own wx w.heap.size v (((u.drop p).take j).map ubyt)) ∧ Below w.heap.size w wx) (fun _ i _ => n - (intOf i).toNat)
  case atStart => exact ⟨0, p, by omega, by omega, hide rfl, rfl, hide (fun y hy => by simp at hy), hide (fun m hm => by rw [Nat.le_zero.1 hm]; rfl), hide (World.ownsRow_nil _ _ _ _), Below.refl _ _⟩
  case round =>
    obtain ⟨j, q, hj4, hjn, HQ, rfl, hall, hno, ho, hb⟩ := hrel
    have hsz := hb.size
    by_cases hlt : j < 4 ∧ q < n
    · obtain ⟨hj, hpj⟩ := hlt
      have hjv : j < (u.drop p).length := by rw [unhide HVL]; have := unhide HQ; omega
      obtain ⟨c0, _, _⟩ := hL.below hb hgl q (by rw [unhide HN]; exact hpj)
      have HM := hide (take_map (f := ubyt) hjv)
      have HALL := hide (take_mem (p := fun y => isBu y = true) hjv (unhide hall))
      have hfalse : isBu ((u.drop p).getD j 0) = false → jn (u.drop p) = false := fun h => jn_not (unhide hno) (fun m h1 h2 _ => take_all h1 h2 h)
      have HFALSE := hide hfalse
      clear hfalse
      rw [unhide HG j, ← unhide HQ] at HM HALL HFALSE
      have hlen : (((u.drop p).take j).map ubyt).length ≤ 4 := by simp; omega
      generalize u.getD q 0 = y at *
      have d1 : (q : Int) < (p : Int) + 4 := by have := unhide HQ; omega
      cases hy : isBu y with
      | false =>
        have HY := hide hy
        go_wp2_with (go_at_call 44; refine (RByte_any _ _).mono ?_; rintro e wr ⟨rfl, rfl⟩)
        go_ret
        exact ⟨ret_bool (unhide HFALSE (unhide HY)).symm, hb⟩
      | true =>
        have HY := hide hy
        have y1 : 56448 ≤ y ∧ y ≤ 56575 := of_decide_eq_true hy
        obtain ⟨y1, y2⟩ := y1
        obtain ⟨v4, w4, r4, o4, b4⟩ := (unhide ho).push1 (y - 56320) (by omega) hsz
        have R4 := hide r4
        clear r4
        have o4' : Own w4 w.heap.size v4 (((u.drop p).take (j + 1)).map ubyt) := by rw [unhide HM]; exact o4
        have hbi := byt_in (unhide HALL (unhide HY))
        have hl5 : (((u.drop p).take (j + 1)).map ubyt).length ≤ 5 := by simp; omega
        obtain ⟨a5, c5, e5, i5⟩ := o4'.isB hbi (by omega)
        subst e5
        have HW := hide (RWhole_at a5 c5 _ w4 (by unfold maxLen; omega) i5.2.2.1)
        have HO4 := hide o4'
        have HTRUE : Hid (whole (((u.drop p).take (j + 1)).map ubyt) = true → jn (u.drop p) = true) := hide (fun h => jn_of (by rw [unhide HVL]; have := unhide HQ; omega) h (unhide HALL (unhide HY)))
        have HNO : Hid (whole (((u.drop p).take (j + 1)).map ubyt) = false → ∀ m, m ≤ j + 1 → whole (((u.drop p).take m).map ubyt) = false) := hide (fun h m hm => by
          rcases Nat.lt_or_ge j m with h1 | h1
          · rw [show m = j + 1 by omega]; exact h
          · exact unhide hno m h1)
        clear o4 o4' i5 hbi hl5 ho HM
        cases hwh : whole (((u.drop p).take (j + 1)).map ubyt) with
        | true =>
          rw [hwh] at HW
          have HJ := hide (unhide HTRUE hwh)
          clear hwh HO4
          generalize (((u.drop p).take (j + 1)).map ubyt).length = m5 at *
          go_wp2_with (first
            | (go_at_call 44; refine (RByte_any _ _).mono ?_; rintro e wr ⟨rfl, rfl⟩)
            | (at_builtin; refine wpList_append_known rfl _ _ 30 30 rfl _ _ rfl rfl _ _ (unhide R4) ?_)
            | (go_at_call 55; refine (unhide HW).mono ?_; rintro e w6 ⟨rfl, n6, rfl⟩))
          go_ret
          exact ⟨ret_bool (unhide HJ).symm, Below.drewN (hb.trans b4) _⟩
        | false =>
          rw [hwh] at HW
          have HNO' := hide (unhide HNO hwh)
          have HALL' := hide (unhide HALL (unhide HY))
          clear hwh
          generalize hm5 : (((u.drop p).take (j + 1)).map ubyt).length = m5 at *
          have HM5 := hide hm5
          clear hm5
          go_wp2_with (first
            | (go_at_call 44; refine (RByte_any _ _).mono ?_; rintro e wr ⟨rfl, rfl⟩)
            | (at_builtin; refine wpList_append_known rfl _ _ 30 30 rfl _ _ rfl rfl _ _ (unhide R4) ?_)
            | (go_at_call 55; refine (unhide HW).mono ?_; rintro e w6 ⟨rfl, n6, rfl⟩))
          go_roundw
          case rel => exact ⟨j + 1, q + 1, by omega, by omega, hide (by rw [unhide HQ]; omega), by go_num, HALL', HNO', HO4, Below.drewN (hb.trans b4) _⟩
          case measure => simp [intOf]; omega
    · have HJ : Hid (jn (u.drop p) = false) := hide (jn_not (unhide hno) (fun m h1 h2 h3 => by rw [unhide HVL] at h2; have := unhide HQ; omega))
      by_cases hqn : q < n
      · have d1 : ¬ (q : Int) < (p : Int) + 4 := by have := unhide HQ; omega
        go_wp2
        go_ret
        exact ⟨ret_bool (unhide HJ).symm, hb⟩
      · go_wp2
        go_ret
        exact ⟨ret_bool (unhide HJ).symm, hb⟩

end Go.Proofs.YtlfcplipnmclhaaDoor
