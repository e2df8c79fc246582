/- Layer 3: contracts of units' joins and FromExact. -/
import Derived.Test.YtlfcplipnmclhaaDoorUne
import Derived.Test.YtlfcplipnmclhaaDoorIts
namespace Go.Proofs.YtlfcplipnmclhaaDoor
open Go.ChangeShapes Go.WideShapes Go.ChangeAt Go.RowKit

theorem Own.below {w w' : World} {B : Nat} {v : Value} {l : List Int} (h : Own w B v l) (hb : Below w.heap.size w w') : Own w' B v l := h.kept (grown_below none hb) (Classical.em _)
theorem OwnU.below {w w' : World} {B : Nat} {v : Value} {l : List Int} (h : OwnU w B v l) (hb : Below w.heap.size w w') : OwnU w' B v l := World.ownsRow.kept h (grown_below none hb) (Classical.em _)
def ubyt (x : Int) : Int := x - 56320
/-- does the byte of the first unit begin an encoding with those of the byte units behind it -/
def jn (u : List Int) : Bool := decide ((need (ubyt (u.getD 0 0))).toNat ≤ u.length) && ((u.take (need (ubyt (u.getD 0 0))).toNat).all isBu && whole ((u.take (need (ubyt (u.getD 0 0))).toNat).map ubyt))
theorem byt_in {l : List Int} (h : ∀ x ∈ l, isBu x = true) : ∀ y ∈ l.map ubyt, 0 ≤ y ∧ y ≤ 255 := by
  intro y hy
  obtain ⟨x, hx, rfl⟩ := List.mem_map.1 hy
  have : 56448 ≤ x ∧ x ≤ 56575 := of_decide_eq_true (h x hx)
  unfold ubyt; omega
theorem take_map {l : List Int} {k : Nat} (hk : k < l.length) {f : Int → Int} : (l.take (k + 1)).map f = (l.take k).map f ++ [f (l.getD k 0)] := by
  rw [List.take_succ_eq_append_getElem hk, List.map_append]
  simp [List.getD, List.getElem?_eq_getElem hk]
theorem take_all {l : List Int} {n k : Nat} (hk : k < n) (hn : n ≤ l.length) {f : Int → Bool} (h : f (l.getD k 0) = false) : (l.take n).all f = false := by
  rw [List.all_eq_false]
  refine ⟨l[k], ?_, ?_⟩
  · rw [List.mem_iff_getElem]
    exact ⟨k, by simp; omega, by simp⟩
  · have : l.getD k 0 = l[k] := by simp [List.getD, List.getElem?_eq_getElem (show k < l.length by omega)]
    rw [← this, h]; simp
theorem take_mem {l : List Int} {k : Nat} (hk : k < l.length) {p : Int → Prop} (h : ∀ x ∈ l.take k, p x) (hx : p (l.getD k 0)) : ∀ x ∈ l.take (k + 1), p x := by
  intro x hm
  rw [List.take_succ_eq_append_getElem hk] at hm
  rcases List.mem_append.1 hm with h1 | h1
  · exact h x h1
  · rw [List.mem_singleton] at h1
    rw [h1]
    simpa [List.getD, List.getElem?_eq_getElem hk] using hx
theorem getD_mem {l : List Int} {k : Nat} (hk : k < l.length) : l.getD k 0 ∈ l := by
  simp [List.getD, List.getElem?_eq_getElem hk]

set_option maxHeartbeats 1000000 in
theorem joins_at (g off cap : Nat) (u : List Int) (w : World) (h0 : 0 < u.length) (hm : u.length ≤ maxLen) (hcap : u.length ≤ cap) (hL : LiesU w g off u) (hb0 : isBu (u.getD 0 0) = true) (hT : Tab w) :
    Calls Tryd.prog 42 #[.slice (some ⟨g, off, none⟩) u.length cap] w fun e w' => e = .returned (.bool (jn u)) ∧ Below w.heap.size w w' := by
  unfold maxLen at hm
  have hb : 56448 ≤ u.getD 0 0 ∧ u.getD 0 0 ≤ 56575 := of_decide_eq_true hb0
  obtain ⟨c0, _, _⟩ := hL 0 h0
  rw [Nat.add_zero] at c0
  have hgl := hL.lt h0
  obtain ⟨n, hn⟩ := need_nat (ubyt (u.getD 0 0))
  have hn4 := need_hi (ubyt (u.getD 0 0))
  have HJ : Hid (jn u = (decide (n ≤ u.length) && ((u.take n).all isBu && whole ((u.take n).map ubyt)))) := hide (by rw [jn, hn, Int.toNat_natCast])
  rw [hn] at hn4
  have HN := hide hn
  have hne := Need_any (ubyt (u.getD 0 0)) w (by unfold ubyt; omega) (by unfold ubyt; omega) hT
  rw [hn] at hne
  have HNE := hide hne
  clear hn hne
  generalize hx : u.getD 0 0 = x at *
  obtain ⟨b1, b2⟩ := hb
  by_cases hle : n ≤ u.length
  · have hlec : n ≤ cap := by omega
    have hd : decide (u.length < n) = false := decide_eq_false (by omega)
    go_enter Tryd.func42, Tryd.ntmps42
    go_wp2_with (first | (go_at_call 43; refine (byteOf_any _ _ b1 b2).mono ?_; rintro e w ⟨rfl, rfl⟩) | (go_at_call 53; refine (unhide HNE).mono ?_; rintro e w ⟨rfl, rfl⟩))
    go_loopw [4, 20] (fun v i wx => ∃ k : Nat, k ≤ n ∧ i = .int .i64 k ∧ Hid (∀ y ∈ u.take k, isBu y = true) ∧ Hid (Own wx w.heap.size v ((u.take k).map ubyt)) ∧ Below w.heap.size w wx) (fun _ i _ => n - (intOf i).toNat)
    case atStart => exact ⟨0, Nat.zero_le _, rfl, hide (fun y hy => by simp at hy), hide (World.ownsRow_nil _ _ _ _), Below.refl _ _⟩
    case round =>
      obtain ⟨k, hk, rfl, hall, ho, hbl⟩ := hrel
      have hsz := hbl.size
      by_cases hlt : k < n
      · have hku : k < u.length := by omega
        obtain ⟨ck, _, _⟩ := hL.below hbl hgl k hku
        have HY : Hid (jn u = false → True) := hide (fun _ => trivial)
        have hfalse : isBu (u.getD k 0) = false → jn u = false := fun h => by rw [unhide HJ, take_all hlt hle h]; simp
        have HFALSE := hide hfalse
        have HM := hide (take_map (f := ubyt) hku)
        have HALL := hide (take_mem (p := fun y => isBu y = true) hku (unhide hall))
        have hlen : ((u.take k).map ubyt).length ≤ k := by simp; omega
        clear hfalse
        generalize u.getD k 0 = y at *
        cases hy : isBu y with
        | false =>
          have HY := hide hy
          go_wp2_with (go_at_call 41; refine (isByteUnit_any _ _).mono ?_; rintro e w' ⟨rfl, rfl⟩)
          go_ret
          exact ⟨ret_bool (unhide HFALSE (unhide HY)).symm, hbl⟩
        | true =>
          have HY := hide hy
          have y1 : 56448 ≤ y ∧ y ≤ 56575 := of_decide_eq_true hy
          obtain ⟨y1, y2⟩ := y1
          obtain ⟨v4, w4, r4, o4, b4⟩ := (unhide ho).push1 (y - 56320) (by omega) hsz
          have R4 := hide r4
          clear r4
          go_wp2_with (first
            | (go_at_call 41; refine (isByteUnit_any _ _).mono ?_; rintro e w' ⟨rfl, rfl⟩)
            | (go_at_call 43; refine (byteOf_any _ _ y1 y2).mono ?_; rintro e w' ⟨rfl, rfl⟩)
            | (at_builtin; refine wpList_append_known rfl _ _ 30 30 rfl _ _ rfl rfl _ _ (unhide R4) ?_))
          go_roundw
          case rel => exact ⟨k + 1, by omega, by go_num, hide (unhide HALL (unhide HY)), by rw [unhide HM]; exact hide o4, hbl.trans b4⟩
          case measure => simp [intOf]; omega
      · obtain rfl : k = n := by omega
        have hbi := byt_in (unhide hall)
        have HA : Hid ((u.take k).all isBu = true) := hide (List.all_eq_true.2 (unhide hall))
        obtain ⟨a5, c5, e5, i5⟩ := (unhide ho).isB hbi (by simp; omega)
        subst e5
        have hml : ((u.take k).map ubyt).length ≤ maxLen := by unfold maxLen; simp; omega
        have HW := hide (Whole_at a5 c5 _ wr hml i5.1 i5.2.2.1 (hT.below hbl hT.size))
        clear ho i5 hbi
        generalize (List.map ubyt (u.take k)) = bs at *
        generalize bs.length = m at *
        go_wp2_with fail
        refine (unhide HW).mono ?_
        rintro e w6 ⟨rfl, n6, rfl⟩
        go_wp2
        go_ret
        exact ⟨ret_bool (by rw [unhide HJ, unhide HA, decide_eq_true hle]; simp), Below.drewN hbl _⟩
  · go_enter Tryd.func42, Tryd.ntmps42
    go_wp2_with (first | (go_at_call 43; refine (byteOf_any _ _ b1 b2).mono ?_; rintro e w ⟨rfl, rfl⟩) | (go_at_call 53; refine (unhide HNE).mono ?_; rintro e w ⟨rfl, rfl⟩))
    go_ret
    exact ⟨ret_bool (by rw [unhide HJ, decide_eq_false hle]; rfl), Below.refl _ _⟩
theorem joins_from (g off cap q : Nat) (u : List Int) (w : World) (h0 : q < u.length) (hm : u.length ≤ maxLen) (hcap : u.length ≤ cap) (hL : LiesU w g off u) (hb0 : isBu (u.getD q 0) = true) (hT : Tab w) :
    Calls Tryd.prog 42 #[.slice (some ⟨g, off + q, none⟩) (u.length - q) (cap - q)] w fun e w' => e = .returned (.bool (jn (u.drop q))) ∧ Below w.heap.size w w' := by
  have := joins_at g (off + q) (cap - q) (u.drop q) w (by simp; omega) (by simp; omega) (by simp; omega) (hL.drop q) (by simpa [List.getD, List.getElem?_drop] using hb0) hT
  rwa [List.length_drop] at this

/-- FromExact's items -/
def itX (u : List Int) (p : Nat) : Item :=
  if (fstU (u.drop p)).2 = 0 then (if isBu (u.getD p 0) then (if jn (u.drop p) then .bad 31 else .ok [ubyt (u.getD p 0)] 0) else .bad 30) else .ok (enc (fstU (u.drop p)).1) ((fstU (u.drop p)).2 - 1)
def exactL (u : List Int) : List Int × Nat × Int := rd (itX u) u.length 0 []

set_option maxHeartbeats 1000000 in
theorem FromExact_at (a0 : Option Addr) (cap : Nat) (u : List Int) (w : World) (hU : IsU w a0 cap u) (hl : u.length ≤ 4194304) (hT : Tab w) :
    Calls Tryd.prog 24 #[.slice a0 u.length cap] w fun e w' => answ w' e (exactL u) ∧ Below w.heap.size w w' := by
  have hcap := hU.1
  obtain ⟨w2, hm, o2, b2⟩ := make_u8 w u.length (by omega)
  have HO : Hid (Own w2 w.heap.size (.slice (some ⟨w.heap.size, 0, none⟩) 0 u.length) []) := o2
  clear o2
  have HF : Hid (exactL u = rd (itX u) u.length 0 []) := hide rfl
  have HU := hide hU.2.2
  go_enter Tryd.func24, Tryd.ntmps24
  go_wp2_with fail
  clear hm
  go_loopw [5, 6] (fun v i wx => ∃ (p : Nat) (bs : List Int), p ≤ u.length ∧ i = .int .i64 p ∧ Hid (exactL u = rd (itX u) u.length p bs) ∧ Hid (Own wx w.heap.size v bs) ∧ bs.length ≤ 4 * p ∧ Hid (∀ x ∈ bs, 0 ≤ x ∧ x ≤ 255) ∧ Below w.heap.size w wx) (fun _ i _ => u.length - (intOf i).toNat)
  case atStart => exact ⟨0, [], Nat.zero_le _, rfl, HF, HO, Nat.zero_le _, hide (fun x h => by cases h), b2⟩
  case round =>
    obtain ⟨p, bs, hp, rfl, hf, ho, hlr, hin, hb⟩ := hrel
    clear HO HF b2
    have hsz := hb.size
    by_cases hlt : p < u.length
    · obtain ⟨gu, ou, rfl, hL, hgu⟩ := hU.lies (by omega)
      have hLx := hL.below hb hgu
      have hpc : ¬ cap = p := by omega
      have hpc2 : p ≤ cap := by omega
      have hfl := fstU_le (u.drop p)
      rw [List.length_drop] at hfl
      have hru : (fstU (u.drop p)).2 ≠ 0 → isRune (fstU (u.drop p)).1 = true := fstU_rune (fun x hx => unhide HU x (List.mem_of_mem_drop hx))
      have HRU := hide hru
      have hc := (hLx p hlt).1
      have HI : Hid (itX u p = if (fstU (u.drop p)).2 = 0 then (if isBu (u.getD p 0) then (if jn (u.drop p) then .bad 31 else .ok [ubyt (u.getD p 0)] 0) else .bad 30) else .ok (enc (fstU (u.drop p)).1) ((fstU (u.drop p)).2 - 1)) := hide rfl
      have HC := hide (ufirst_from gu ou cap p u wr hlt (by unfold maxLen; omega) hLx)
      have HJN := hide (fun n h => joins_from gu ou cap p u (wr.drewN n) hlt (by unfold maxLen; omega) hcap hLx h (Tab.drewN (hT.below hb hT.size) n))
      unfold fstV at HC
      clear hru
      generalize (fstU (u.drop p)).1 = r at *
      generalize (fstU (u.drop p)).2 = n at *
      generalize jn (u.drop p) = j at *
      generalize u.getD p 0 = x at *
      clear hL hLx
      by_cases h0 : n = 0
      · have hn0 : decide ((n : Int) > 0) = false := by simp [h0]
        have hn1 : ¬ ((n : Int) > 0) := by omega
        have HI2 : Hid (itX u p = _) := hide ((unhide HI).trans (if_pos h0))
        cases hx : isBu x with
        | false =>
          have hres := unhide hf
          rw [rd_bad hlt ((unhide HI2).trans (if_neg (by simp [hx])))] at hres
          have HRES := hide hres
          clear hres h0
          go_wp2_with fail
          refine (unhide HC).mono ?_
          rintro e w3 ⟨rfl, k3, rfl⟩
          go_wp2_with (go_at_call 41; refine (isByteUnit_any _ _).mono ?_; rintro e w' ⟨rfl, rfl⟩)
          go_ret3
          rw [unhide HRES]
          exact ⟨⟨none, 0, rfl, isB_none _⟩, Below.drewN hb _⟩
        | true =>
          have HI3 : Hid (itX u p = _) := hide ((unhide HI2).trans (if_pos hx))
          have HX := hide hx
          cases j with
          | true =>
            have hres := unhide hf
            rw [rd_bad hlt ((unhide HI3).trans (if_pos rfl))] at hres
            have HRES := hide hres
            clear hres h0
            go_wp2_with fail
            refine (unhide HC).mono ?_
            rintro e w3 ⟨rfl, k3, rfl⟩
            go_wp2_with (first
              | (go_at_call 41; refine (isByteUnit_any _ _).mono ?_; rintro e w' ⟨rfl, rfl⟩)
              | (go_at_call 42; refine (unhide HJN _ (unhide HX)).mono ?_; rintro e w5 ⟨rfl, b5⟩))
            go_ret3
            rw [unhide HRES]
            exact ⟨⟨none, 0, rfl, isB_none _⟩, (Below.drewN hb k3).trans (b5.mono hsz)⟩
          | false =>
            have hx2 : 56448 ≤ x ∧ x ≤ 56575 := of_decide_eq_true hx
            obtain ⟨x1, x2⟩ := hx2
            have hres := unhide hf
            rw [rd_ok hlt ((unhide HI3).trans (if_neg (by simp)))] at hres
            have HRES := hide hres
            clear hres h0
            go_wp2_with fail
            refine (unhide HC).mono ?_
            rintro e w3 ⟨rfl, k3, rfl⟩
            go_wp2_with (first
              | (go_at_call 41; refine (isByteUnit_any _ _).mono ?_; rintro e w' ⟨rfl, rfl⟩)
              | (go_at_call 42; refine (unhide HJN _ (unhide HX)).mono ?_; rintro e w5 ⟨rfl, b5⟩
                 have hc5 : w5.cell? ⟨gu, ou + p, none⟩ = some (.int .u16 x) := (b5.cell (p := ⟨gu, ou + p, none⟩) (Nat.lt_of_lt_of_le hgu hsz)).trans hc
                 obtain ⟨v6, w6, r6, o6, b6⟩ := (Own.below (w := wr.drewN k3) (unhide ho) b5).push1 (x - 56320) (by omega) (Nat.le_trans hsz b5.size); have R6 := hide r6; clear r6)
              | (go_at_call 43; refine (byteOf_any _ _ x1 x2).mono ?_; rintro e w' ⟨rfl, rfl⟩)
              | (at_builtin; refine wpList_append_known rfl _ _ 30 30 rfl _ _ rfl rfl _ _ (unhide R6) ?_))
            go_roundw
            case rel => exact ⟨p + 1, bs ++ [ubyt x], by omega, by go_num, HRES, hide o6, by simp; omega, hide (fun y hy => by rcases List.mem_append.1 hy with h | h; exact unhide hin y h; rw [List.mem_singleton] at h; rw [h]; unfold ubyt; omega), ((Below.drewN hb k3).trans (b5.mono hsz)).trans b6⟩
            case measure => simp [intOf]; omega
      · have hn1 : (n : Int) > 0 := by omega
        have hn2 : decide ((n : Int) > 0) = true := by simp; omega
        have hres := unhide hf
        rw [rd_ok hlt ((unhide HI).trans (if_neg h0)), show p + (n - 1 + 1) = p + n by omega] at hres
        have HRES := hide hres
        have HR : Hid (isRune r = true) := hide (unhide HRU h0)
        have hel := enc_len r
        clear hres HRU
        go_wp2_with fail
        refine (unhide HC).mono ?_
        rintro e w3 ⟨rfl, k3, rfl⟩
        go_wp2_with fail
        refine (AppendRune_at w.heap.size _ bs r (wr.drewN k3) (unhide ho) (unhide HR) (by omega) hsz).mono ?_
        rintro e w4 ⟨v4, rfl, o4, b4⟩
        go_wp2
        go_roundw
        case rel => exact ⟨p + n, bs ++ enc r, by omega, by go_num, HRES, hide o4, by simp; omega, hide (fun y hy => by rcases List.mem_append.1 hy with h | h; exact unhide hin y h; exact enc_bytes r y h), (Below.drewN hb k3).trans b4⟩
        case measure => simp [intOf]; omega
    · obtain rfl : p = u.length := by omega
      have hres := unhide hf
      rw [rd_end hlt] at hres
      have HRES := hide hres
      obtain ⟨a5, c5, e5, i5⟩ := (unhide ho).isB (unhide hin) (by omega)
      subst e5
      have I5 := hide i5
      clear hres hf ho i5
      go_wp2
      go_ret3
      rw [unhide HRES]
      exact ⟨⟨_, _, rfl, unhide I5⟩, hb⟩

end Go.Proofs.YtlfcplipnmclhaaDoor
