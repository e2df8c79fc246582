/- Layer 10's laws: a rope of pieces. · Layer 10: contracts of seek's find and To, settledFrom's given. · scan.take: its states, and what holds at each label. -/
import Derived.Test.YteamaneompijkaaGreatDoorSl40
import Derived.Test.YteamaneompijkaaGreatDoorSl36
import Derived.Scope
import Derived.ScopeJumps

section
namespace Go.Proofs.YteamaneompijkaaGreatDoor
open Go.ChangeShapes Go.WideShapes Go.ChangeAt Go.RowKit
attribute [local go_sem] Oper.semAt_some

structure RoI (w : World) (ls : List (List Int)) (k g : Nat) (o : Option Nd) (X : World) : Prop where
  r : IsRo X g o
  t : txtO o = (ls.take k).flatten
  d : Below w.heap.size w X
theorem flat_take (ls : List (List Int)) {k : Nat} (h : k < ls.length) : (ls.take (k + 1)).flatten = (ls.take k).flatten ++ ls.getD k [] := by
  rw [List.take_succ_eq_append_getElem h, List.flatten_append, List.getD_eq_getElem?_getD, List.getElem?_eq_getElem h]
  simp
theorem flat_le (ls : List (List Int)) (k : Nat) : (ls.take k).flatten.length ≤ ls.flatten.length := by
  have h1 : ls.flatten = (ls.take k).flatten ++ (ls.drop k).flatten := by rw [← List.flatten_append, List.take_append_drop]
  rw [h1, List.length_append]
  omega
set_option maxRecDepth 100000 in
set_option maxHeartbeats 4000000 in
theorem Rope10_at (a0 : Option Addr) (cap : Nat) (ls : List (List Int)) (w : World) (h : IsNN w a0 ls) (hs : ls.flatten.length ≤ 268435456) (hlen : ls.length ≤ 4611686018427387904) (hW : Wt w) :
    Calls Tryz.prog 9 #[.slice a0 ls.length cap] w fun y w' => ∃ g o, y = .returned (.pointer (some ⟨g, 0, none⟩)) ∧ IsRo w' g o ∧ txtO o = ls.flatten ∧ Below w.heap.size w w' := by
  have HN := hide (New9_at none 0 [] w ⟨⟨Nat.le_refl _, Nat.zero_le _, Or.inl rfl, fun x hx => by cases hx⟩, fun _ => rfl⟩ (Nat.zero_le _) hW)
  rw [show ([] : List Int).length = 0 from rfl] at HN
  have HW := hide fun (X : World) (hx : Below w.heap.size w X) => hW.below hx
  have HP := hide fun (X : World) (hx : Below w.heap.size w X) => h.below hx (Nat.le_refl _)
  have HS := hide hs
  have HLN := hide hlen
  clear h hs hW
  go_enter Tryz.func9, Tryz.ntmps9
  go_wp2_with fail
  refine (unhide HN).mono ?_
  rintro y w1 ⟨g, o, rfl, hr, ht, _, _, x1⟩
  dsimp only
  have i0 : RoI w ls 0 g o w1 := ⟨hr, by rw [ht]; rfl, x1⟩
  clear HN hr ht x1
  go_wp2_with fail
  go_loopw [3, 4, 5, 6] (fun v3 v4 v5 v6 wx => (∃ z, v6 = z) ∧ ∃ (k g : Nat) (o : Option Nd), v3 = .pointer (some ⟨g, 0, none⟩) ∧ v4 = .int .i64 0 ∧ v5 = .int .i64 (k : Int) ∧ k ≤ ls.length ∧ Hid (RoI w ls k g o wx)) (fun _ _ i _ _ => ls.length - (intOf i).toNat)
  case atStart => exact ⟨⟨_, rfl⟩, 0, g, o, rfl, rfl, rfl, Nat.zero_le _, hide i0⟩
  case round =>
    clear i0
    obtain ⟨⟨z6, rfl⟩, k, g, o, rfl, rfl, rfl, hk, HI⟩ := hrel
    by_cases c : k < ls.length
    · have t1 : (k : Int) < (ls.length : Int) := by omega
      have d1 : decide ((k : Int) < (ls.length : Int)) = true := decide_eq_true t1
      have hI := unhide HI
      rcases unhide HP wr hI.d with hnil | ⟨ga, off, rfl, hga, hrow⟩
      · rw [hnil] at c; exact absurd c (Nat.not_lt_zero _)
      · obtain ⟨A, C, hcell, hN⟩ := hrow k c
        have hle := flat_take ls c
        clear hrow
        generalize ls.getD k [] = pc at *
        have hle2 := flat_le ls (k + 1)
        have hlp : ((ls.take k).flatten).length + pc.length ≤ 268435456 := by
          have := unhide HS
          rw [hle, List.length_append] at hle2
          omega
        have b0 : Below wr.heap.size wr (wr.alloc (.cells #[] 5)) := (Below.refl _ _).alloc (Nat.le_refl _) _
        obtain ⟨v', W', r1, r2, r3, _⟩ := appG 30 (own_lit0S wr) b0.size (hN.1.below b0 (Nat.le_refl _)) (by simp only [List.length_nil]; omega)
        rw [List.nil_append] at r2
        obtain ⟨a', c', rfl, hN'⟩ := own_isNS r2 hN.1.2.2.2 (by omega)
        have XW := hI.d.trans ((b0.trans r3).mono hI.d.size)
        have HNw := hide (New9_at a' c' pc W' hN' (by omega) (unhide HW W' XW))
        have hcell' : (wr.alloc (.cells #[] 5)).cell? ⟨ga, off + k, none⟩ = some (.slice A pc.length C) := (b0.cell (p := ⟨ga, off + k, none⟩) hga).trans hcell
        have R1 := hide r1
        have HR := hide (hI.r.on (b0.trans r3))
        have HT := hide hI.t
        have HF := hide hle
        have HLP := hide hlp
        have HXW := hide XW
        clear r1 r2 r3 hN hN' hI hcell hle hle2 hlp b0 XW hga
        go_wp2_with (at_builtin; refine wpList_append_known rfl _ _ 30 30 rfl _ _ rfl rfl _ _ (unhide R1) ?_)
        refine (unhide HNw).mono ?_
        rintro y w2 ⟨g2, o2, rfl, hr2, ht2, _, _, x2⟩
        dsimp only
        have X2 := (unhide HXW).trans (x2.mono (unhide HXW).size)
        have HJ := hide (RoJoin9_at g g2 o o2 w2 ((unhide HR).on x2) hr2 (by rw [unhide HT, ht2]; exact unhide HLP) (unhide HW w2 X2))
        have HT2 := hide ht2
        clear hr2 ht2 x2 HXW HNw R1 HR
        go_wp2_with fail
        refine (unhide HJ).mono ?_
        rintro y w3 ⟨g3, rfl, hr3, x3⟩
        dsimp only
        have i1 : RoI w ls (k + 1) g3 (joinO o o2) w3 := ⟨hr3, by rw [joinO_txt, unhide HT, unhide HT2, unhide HF], X2.trans (x3.mono X2.size)⟩
        clear HJ hr3 x3 X2
        have wk : wrap64 ((k : Int) + 1) = (k : Int) + 1 := wrap_in _ (by omega) (by omega)
        go_wp2_with fail
        go_roundw
        case rel => exact ⟨⟨_, rfl⟩, k + 1, g3, joinO o o2, rfl, rfl, by push_cast; rfl, by omega, hide i1⟩
        case measure => simp only [intOf]; omega
    · have t1 : ¬ (k : Int) < (ls.length : Int) := by omega
      have d1 : decide ((k : Int) < (ls.length : Int)) = false := decide_eq_false t1
      have hkk : k = ls.length := by omega
      have HK := hide hkk
      clear hkk
      go_wp2_with fail
      refine bodyPost_ret (results_tmp rfl _ _ _) rfl ?_
      have hI := unhide HI
      exact ⟨g, rfl, o, hI.r, by rw [hI.t, unhide HK, List.take_length], hI.d⟩

end Go.Proofs.YteamaneompijkaaGreatDoor
end

section
namespace Go.Proofs.YteamaneompijkaaGreatDoor
open Go.ChangeShapes Go.WideShapes Go.ChangeAt Go.RowKit
attribute [local go_sem] Oper.semAt_some fldS10

theorem EE_any {L : List Int} (hl : ∀ x ∈ L, 0 ≤ x ∧ x ≤ 255) (i : Nat) : ((EE L).getD i e0).1 ≤ L.length := by
  by_cases h : i < (EE L).length
  · exact EE_bytes hl h
  · rw [List.getD_eq_getElem?_getD, List.getElem?_eq_none (by omega)]
    exact Nat.zero_le _
theorem fdE_le {L : List Int} (hl : ∀ x ∈ L, 0 ≤ x ∧ x ≤ 255) (u p m : Int) : (fdE u p m (EE L)).1 ≤ L.length := by
  unfold fdE
  split
  · exact EE_any hl _
  · exact Nat.zero_le _
theorem toP_leS {L : List Int} (hl : ∀ x ∈ L, 0 ≤ x ∧ x ≤ 255) (u p m : Int) : toP u p 1 m (EE L) ≤ L.length := by
  unfold toP
  split
  · exact fdE_le hl u p m
  · exact Nat.zero_le _
set_option maxRecDepth 100000 in
set_option maxHeartbeats 2000000 in
theorem find10_no (g N : Nat) (u place m szT zb zr zu ze : Int) (zh zt : ByteArray) (w : World)
    (HLen : Hid (∀ X, Below w.heap.size w X → Calls Tryz.prog 18 #[.pointer (some ⟨g, 0, none⟩)] X fun y w' => y = .returned (.int .i64 (N : Int)) ∧ Below X.heap.size X w'))
    (HWe : Hid (∀ X, Below w.heap.size w X → Calls Tryz.prog 14 #[.pointer (some ⟨g, 0, none⟩)] X fun y w' => y = .returned (.agg #[.int .i64 zb, .int .i64 zr, .int .i64 zu, .int .i64 ze, .string zh, .string zt]) ∧ Below X.heap.size X w'))
    (HB1 : Hid (∀ X, Below w.heap.size w X → Calls Tryz.prog 51 #[.agg #[.int .i64 zb, .int .i64 zr, .int .i64 zu, .int .i64 ze], .int .i64 u] X fun y w' => y = .returned (.int .i64 szT) ∧ Below X.heap.size X w'))
    (h0 : place < 0 ∨ szT < place) :
    Calls Tryz.prog 50 #[.pointer (some ⟨g, 0, none⟩), .int .i64 u, .int .i64 place, .int .i64 m] w fun y w' => y = .returned (.tuple #[.int .i64 0, .int .i64 2]) ∧ Below w.heap.size w w' := by
  by_cases h1 : place < 0
  · have d0 : decide (place < 0) = true := decide_eq_true h1
    clear h0 HWe HB1
    go_enter Tryz.func50, Tryz.ntmps50
    go_wp2_with fail
    refine (unhide HLen w (Below.refl _ _)).mono ?_
    rintro y v1 ⟨rfl, x1⟩
    dsimp only
    go_wp2_with fail
    refine bodyPost_ret (results_tmp2 rfl _ _ _) rfl ?_
    exact ⟨rfl, x1⟩
  · have h2 : szT < place := by omega
    have d0 : decide (place < 0) = false := decide_eq_false h1
    have d1 : decide (szT < place) = true := decide_eq_true h2
    have d2 : decide (place > szT) = true := decide_eq_true h2
    clear h0
    go_enter Tryz.func50, Tryz.ntmps50
    go_wp2_with fail
    refine (unhide HLen w (Below.refl _ _)).mono ?_
    rintro y v1 ⟨rfl, x1⟩
    dsimp only
    go_wp2_with fail
    refine (unhide HWe v1 x1).mono ?_
    rintro y v2 ⟨rfl, x2⟩
    dsimp only
    have X2 := x1.trans (x2.mono x1.size)
    go_wp2_with fail
    refine (unhide HB1 v2 X2).mono ?_
    rintro y v3 ⟨rfl, x3⟩
    dsimp only
    have X3 := X2.trans (x3.mono X2.size)
    go_wp2_with fail
    refine bodyPost_ret (results_tmp2 rfl _ _ _) rfl ?_
    exact ⟨rfl, X3⟩
/-- what settledFrom must answer for a ruler that isn't Bytes -/
def SetP (g : Nat) (T : List Int) (u place : Int) (w : World) : Prop := ¬ u = 1 → 0 ≤ place → place ≤ (szE u T : Int) → ∃ near : Nat, NearA T u place near ∧
  ∀ X, Below w.heap.size w X → Calls Tryz.prog 87 #[.func (.func 88) #[.pointer (some ⟨g, 0, none⟩)] #[], .int .i64 (T.length : Int), .int .i64 u, .int .i64 place] X fun y w' => y = .returned (.int .i64 (near : Int)) ∧ Below X.heap.size X w'
theorem find10_at (g : Nat) (o : Option Nd) (u place m : Int) (w : World) (h : IsRo w g o) (hm : (txtO o).length ≤ 268435456) (hW : Wt w) (hu : isRu u = true) (hmo : isRu m = true) (hset : SetP g (txtO o) u place w) :
    Calls Tryz.prog 50 #[.pointer (some ⟨g, 0, none⟩), .int .i64 u, .int .i64 place, .int .i64 m] w fun y w' => y = .returned (.tuple #[.int .i64 ((fdE u place m (EE (txtO o))).1 : Int), .int .i64 (fdR u place m (EE (txtO o)))]) ∧ Below w.heap.size w w' := by
  have hb := bytes_of h
  have hbt : ∀ n, ∀ x ∈ (txtO o).take n, 0 ≤ x ∧ x ≤ 255 := fun n x hx => hb x (List.mem_of_mem_take hx)
  have hLen := fun (X : World) (hx : Below w.heap.size w X) => Len9_at g o X (h.on hx)
  have hWe := fun (X : World) (hx : Below w.heap.size w X) => Weld9_at g o X (h.on hx)
  rw [weq9] at hWe
  have hB : ∀ l : List Int, (∀ x ∈ l, 0 ≤ x ∧ x ≤ 255) → ∀ X, Below w.heap.size w X → Calls Tryz.prog 51 #[.agg #[.int .i64 (szL l).b, .int .i64 (szL l).r, .int .i64 (szL l).u, .int .i64 (szL l).e], .int .i64 u] X fun y w' => y = .returned (.int .i64 (szE u l : Int)) ∧ Below X.heap.size X w' := fun l hl X _ => by
    have := by10_at (szL l) u X
    rw [byZ_is hl hu] at this
    exact this
  by_cases hp : place < 0 ∨ (szE u (txtO o) : Int) < place
  · have hpl : isPl u place (EE (txtO o)) = false := by
      cases hc : isPl u place (EE (txtO o)) with
      | false => rfl
      | true =>
        have := (isPl_iff (inc_EE hb u)).1 hc
        rw [by_last hu] at this
        omega
    have f1 : fdR u place m (EE (txtO o)) = 2 := by unfold fdR; rw [hpl]; rfl
    have f2 : fdE u place m (EE (txtO o)) = e0 := by unfold fdE; rw [f1]; rfl
    rw [f1, f2]
    exact find10_no g _ u place m _ _ _ _ _ _ _ w (hide hLen) (hide hWe) (hide (hB _ hb)) hp
  · have h0 : 0 ≤ place := by omega
    have h1 : place ≤ (szE u (txtO o) : Int) := by omega
    have hz := szE_leS hb u
    obtain ⟨near, hN, hS⟩ : ∃ near : Nat, NearA (txtO o) u place near ∧ (¬ u = 1 → ∀ X, Below w.heap.size w X → Calls Tryz.prog 87 #[.func (.func 88) #[.pointer (some ⟨g, 0, none⟩)] #[], .int .i64 ((txtO o).length : Int), .int .i64 u, .int .i64 place] X fun y w' => y = .returned (.int .i64 (near : Int)) ∧ Below X.heap.size X w') := by
      by_cases hu1 : u = 1
      · exact ⟨place.toNat, .inl ⟨hu1, by omega⟩, fun h => absurd hu1 h⟩
      · obtain ⟨near, a, b⟩ := hset hu1 h0 h1
        exact ⟨near, a, fun _ => b⟩
    obtain ⟨k1, _, _, _⟩ := near_ok hb hu h0 h1 hN
    obtain ⟨f1, f2⟩ := find_ok (m := m) hb hu hmo h0 h1 hN
    have hf := flr_le (txtO o) (near - 4)
    generalize hlo : flr (txtO o) (near - 4) = lo at *
    have hs := szE_leS (hbt lo) u
    rw [List.length_take] at hs
    have hLb : ∀ x ∈ ((txtO o).drop lo).take (min (txtO o).length (near + 4) - lo), 0 ≤ x ∧ x ≤ 255 := fun x hx => hb x (List.mem_of_mem_drop (List.mem_of_mem_take hx))
    have hLl : (((txtO o).drop lo).take (min (txtO o).length (near + 4) - lo)).length ≤ 268435456 := by rw [List.length_take, List.length_drop]; omega
    have hP := toP_leS hLb u (place - (szE u ((txtO o).take lo) : Int)) m
    have hBy := fun (X : World) (hx : Below w.heap.size w X) => BytesR9_at g o lo (min (txtO o).length (near + 4)) X (h.on hx) (by omega) (by omega) hm
    have hAh := fun (X : World) (hx : Below w.heap.size w X) => ahead10_at g o lo X (h.on hx) (by omega) hm (hW.below hx)
    rw [szV_eq] at hAh
    generalize ((txtO o).drop lo).take (min (txtO o).length (near + 4) - lo) = L at *
    have hTo := fun (X : World) (a : Option Addr) (c : Nat) (hx : Below w.heap.size w X) (hI : IsB X a c L) => To_at a c L u (place - (szE u ((txtO o).take lo) : Int)) 1 m X hI (hW.below hx).1
    rw [f1] at hTo
    have hFl := fun (X : World) (hx : Below w.heap.size w X) => floor10_at g o (near - 4) X (h.on hx) hb (by omega) hm (hW.below hx)
    rw [hlo] at hFl
    refine (find10_of g (txtO o).length near (near - 4) lo (min (txtO o).length (near + 4)) u place m (szE u (txtO o) : Int) (szE u ((txtO o).take lo) : Int) (toP u (place - (szE u ((txtO o).take lo) : Int)) 1 m (EE L) : Int) (fdR u place m (EE (txtO o))) _ _ _ _ _ _ _ _ _ _ L w
      (hide hLen) (hide hWe) (hide (hB _ hb)) (hide hS) (hide hFl) (hide hBy) (hide hAh) (hide (hB _ (hbt lo))) (hide hTo) (hide hLb) (hide hLl) h0 h1 (fun hu1 => ?_)
      (wrap_in _ (by omega) (by omega)) (by omega) (wrap_in _ (by omega) (by omega)) (by omega) (wrap_in _ (by omega) (by omega)) (wrap_in _ (by omega) (by omega))).mono ?_
    · rcases hN with ⟨_, e⟩ | ⟨e, _⟩
      · exact e
      · exact absurd hu1 e
    · rintro y w' ⟨rfl, b⟩
      refine ⟨?_, b⟩
      by_cases hR : fdR u place m (EE (txtO o)) = 0
      · rw [if_pos hR, ← f2 hR]
        push_cast
        rfl
      · rw [if_neg hR]
        have : fdE u place m (EE (txtO o)) = e0 := by unfold fdE; rw [if_neg hR]
        rw [this]
        rfl
theorem fdE_inS {r p m : Int} {E : List Ed} (hE : Inc r E) (h : fdR r p m E = 0) : ∃ i, i < E.length ∧ fdE r p m E = E.getD i e0 := by
  have hp := (fdR_ok h).1
  refine ⟨selI r p m E, selI_lt hE hp, ?_⟩
  unfold fdE
  rw [if_pos h]
theorem To10_at (g : Nat) (o : Option Nd) (f place t m : Int) (w : World) (h : IsRo w g o) (hm : (txtO o).length ≤ 268435456) (hW : Wt w) (hk : (isRu f && (isRu t && isRu m)) = true) (hset : ∀ X, Below w.heap.size w X → SetP g (txtO o) f place X) :
    Calls Tryz.prog 20 #[.pointer (some ⟨g, 0, none⟩), .int .i64 f, .int .i64 place, .int .i64 t, .int .i64 m] w fun y w' => y = .returned (.tuple #[.int .i64 (toP f place t m (EE (txtO o)) : Int), .int .i64 (toR f place t m (EE (txtO o)))]) ∧ Below w.heap.size w w' := by
  have hb := bytes_of h
  have hk' := hk
  rw [Bool.and_eq_true, Bool.and_eq_true] at hk'
  obtain ⟨hf, ht, hmo⟩ := hk'
  have e1 : toP f place t m (EE (txtO o)) = byE t (fdE f place m (EE (txtO o))) := by unfold toP; rw [if_pos hk]
  have e2 : toR f place t m (EE (txtO o)) = fdR f place m (EE (txtO o)) := by unfold toR; rw [if_pos hk]
  rw [e1, e2]
  have hle := fdE_le hb f place m
  have hbt : ∀ x ∈ (txtO o).take (fdE f place m (EE (txtO o))).1, 0 ≤ x ∧ x ≤ 255 := fun x hx => hb x (List.mem_of_mem_take hx)
  have hAh := fun (X : World) (hx : Below w.heap.size w X) => ahead10_at g o (fdE f place m (EE (txtO o))).1 X (h.on hx) hle hm (hW.below hx)
  rw [szV_eq] at hAh
  have hkn := fun (X : World) (hx : Below w.heap.size w X) => known10_at f t m X (hW.below hx).1
  have ek : kn3 f t m = 0 := by unfold kn3; rw [if_pos hk]
  rw [ek] at hkn
  have hV : byZ t (szL ((txtO o).take (fdE f place m (EE (txtO o))).1)) = (byE t (fdE f place m (EE (txtO o))) : Int) := by
    rw [byZ_is hbt ht]
    by_cases hR : fdR f place m (EE (txtO o)) = 0
    · obtain ⟨i, hi, ei⟩ := fdE_inS (inc_EE hb f) hR
      rw [ei, sz_take hb ht hi]
    · have : fdE f place m (EE (txtO o)) = e0 := by unfold fdE; rw [if_neg hR]
      rw [this, by_e0, show e0.1 = 0 from rfl, List.take_zero, sz_nil]
  refine To10_of g (fdE f place m (EE (txtO o))).1 f place t m (fdR f place m (EE (txtO o))) _ _ _ _ _ w (hide hkn) (hide fun X hx => find10_at g o f place m X (h.on hx) hm (hW.below hx) hf hmo (hset X hx)) (hide fun _ => hAh) (hide fun X hx => hV ▸ by10_at _ t X) (fun hR => ?_)
  have : fdE f place m (EE (txtO o)) = e0 := by unfold fdE; rw [if_neg hR]
  rw [this, by_e0]
  rfl

end Go.Proofs.YteamaneompijkaaGreatDoor
end

section
namespace Go.Proofs.YteamaneompijkaaGreatDoor
open Go.ChangeShapes Go.WideShapes Go.ChangeAt Go.RowKit

/-- by a goto: J of its label; else Q -/
def jumps (J : Nat → Act → World → Prop) (Q : Exit → Act → World → Prop) : Exit → Act → World → Prop
  | .goto l, a, w => J l a w
  | e, a, w => Q e a w
/-- a scope with several labels: what holds at each, a measure that each pass lowers -/
theorem wp_scope_labels {P : Program} {a : Act} {w : World} {Q : Exit → Act → World → Prop} {c : Code} (J : Nat → Nat → Act → World → Prop)
    (first : c.wp P (jumps (fun l a w => ∃ m, J l m a w) Q) a w)
    (pass : ∀ l m a w, J l m a w → ∃ rest, findLabel c l = some rest ∧ rest.wp P (jumps (fun l' a' w' => ∃ m', J l' m' a' w' ∧ m' < m) Q) a w) : (Code.scope c).wp P Q a w := by
  intro b k cs
  have key : ∀ m l a w, J l m a w → ∀ rest, findLabel c l = some rest → ∃ e a' w', Q e a' w' ∧ Arrives P (lone (b.at a (.code rest :: .inScope c :: k)) cs w) b k cs e a' w' := by
    intro m
    induction m using Nat.strongRecOn with
    | _ m ih =>
      intro l a w hJ rest hr
      obtain ⟨rest', hr', hp⟩ := pass l m a w hJ
      rw [hr] at hr'
      cases hr'
      obtain ⟨e, a₁, w₁, hq, harr⟩ := hp b (.inScope c :: k) cs
      cases e with
      | normal => exact ⟨.normal, a₁, w₁, hq, Steps.trans harr (.one step_inScope)⟩
      | exit id => exact ⟨.exit id, a₁, w₁, hq, fun k' hk => harr k' (by simp [exitTo, hk])⟩
      | goto l' =>
        obtain ⟨m', hJ', hlt⟩ := hq
        obtain ⟨r', hr', _⟩ := pass l' m' a₁ w₁ hJ'
        obtain ⟨e₂, a₂, w₂, hq₂, harr₂⟩ := ih m' hlt l' a₁ w₁ hJ' r' hr'
        have hg : gotoIn l' (.inScope c :: k) = some (.code r' :: .inScope c :: k) := by simp [gotoIn, hr']
        exact ⟨e₂, a₂, w₂, hq₂, .of_steps (harr _ hg) harr₂⟩
      | ret => exact ⟨_, a₁, w₁, hq, harr⟩
      | panic ch => exact ⟨_, a₁, w₁, hq, harr⟩
      | outgrown => exact ⟨_, a₁, w₁, hq, harr⟩
  obtain ⟨e, a₁, w₁, hq, harr⟩ := first b (.inScope c :: k) cs
  cases e with
  | normal => exact ⟨.normal, a₁, w₁, hq, .head step_scope (Steps.trans harr (.one step_inScope))⟩
  | exit id => exact ⟨.exit id, a₁, w₁, hq, fun k' hk => .head step_scope (harr k' (by simp [exitTo, hk]))⟩
  | goto l' =>
    obtain ⟨m', hJ'⟩ := hq
    obtain ⟨r', hr', _⟩ := pass l' m' a₁ w₁ hJ'
    obtain ⟨e₂, a₂, w₂, hq₂, harr₂⟩ := key m' l' a₁ w₁ hJ' r' hr'
    have hg : gotoIn l' (.inScope c :: k) = some (.code r' :: .inScope c :: k) := by simp [gotoIn, hr']
    exact ⟨e₂, a₂, w₂, hq₂, .of_steps (.head step_scope (harr _ hg)) harr₂⟩
  | ret => exact ⟨_, a₁, w₁, hq, .of_steps (.one step_scope) harr⟩
  | panic ch => exact ⟨_, a₁, w₁, hq, .of_steps (.one step_scope) harr⟩
  | outgrown => exact ⟨_, a₁, w₁, hq, .of_steps (.one step_scope) harr⟩

/-- the frame at a label: the scanner, the bytes that are left, what was told -/
def FrT (g : Nat) (bv tv : Value) (a : Act) : Prop := ∃ u2 u3 u6 u7 u8 u9 u10 u11 u12 u13 u14 u15 u16 u17 u18 u19 u20 u21 u22 u23 u24 u25 u26 u27 u28 u29 u30 u31 u32 u33 u34 u35 u36 u37 u38 u39 u40 u41 u42 u43 u44 u45 u46 u47 u48 u49 u50 u51 u52 u53 u54 u55 u56 u57 u58 u59 u60 u61 u62 u63 u64 u65 u66 u67 u68 u69 u70 u71 u72 u73 u74 u75 u76 u77 u78 u79 u80 u81 u82 : Value, a = { tmps := #[.pointer (some ⟨g, 0, none⟩), bv, u2, u3, .slice none 0 0, tv, u6, u7, u8, u9, u10, u11, u12, u13, u14, u15, u16, u17, u18, u19, u20, u21, u22, u23, u24, u25, u26, u27, u28, u29, u30, u31, u32, u33, u34, u35, u36, u37, u38, u39, u40, u41, u42, u43, u44, u45, u46, u47, u48, u49, u50, u51, u52, u53, u54, u55, u56, u57, u58, u59, u60, u61, u62, u63, u64, u65, u66, u67, u68, u69, u70, u71, u72, u73, u74, u75, u76, u77, u78, u79, u80, u81, u82], defers := [] }
/-- what holds of what is held and of the bytes that are left, at each label -/
def AtL (l : Nat) (h b : List Int) : Prop :=
  match l with
  | 0 => h = []
  | 1 => prop h = true ∧ h.length = 1
  | 2 => prop h = true ∧ 2 ≤ h.length
  | 3 => ∃ x r, b = x :: r ∧ whole (h ++ [x]) = true ∧ stepS h x = ([(value (h ++ [x]), h.length + 1, true)], [])
  | 4 => prop h = true ∧ ∃ x r, b = x :: r ∧ fits h x = true
  | 5 => prop h = true ∧ ∃ x r, b = x :: r ∧ fits h x = false
  | _ => False
def rank (l : Nat) : Nat := match l with | 0 => 1 | 1 => 3 | 2 => 3 | 3 => 0 | _ => 2
/-- the state of memory: w0: at the call -/
structure Mem (g : Nat) (fed : Int) (w0 : World) (h b : List Int) (ts : List Tri) (a0 : Option Addr) (cap : Nat) (v : Value) (w : World) : Prop where
  sca : Sca w g h fed
  scf : Scf w0.heap.size g w0 w
  row : RT w0.heap.size v ts w
  isb : IsB w0 a0 cap b
  blk : ∀ a, a0 = some a → a.block < w0.heap.size ∧ a.block ≠ g
  tab0 : Tab w0
  gne : g ≠ 0
  len : ts.length + h.length + b.length ≤ 4194000
  low : g < w0.heap.size
def J (g : Nat) (fed : Int) (w0 : World) (T : List Tri) (H : List Int) (l m : Nat) (a : Act) (w : World) : Prop :=
  ∃ (h b : List Int) (ts : List Tri) (a0 : Option Addr) (cap : Nat) (v : Value), FrT g (.slice a0 b.length cap) v a ∧ m = 4 * b.length + rank l ∧ Hid (Mem g fed w0 h b ts a0 cap v w) ∧ AtL l h b ∧
    Hid (ts ++ (scanS h b).1 = T ∧ (scanS h b).2 = H)
def JN (g : Nat) (fed : Int) (w0 : World) (T : List Tri) (H : List Int) (m l : Nat) (a : Act) (w : World) : Prop := ∃ m', J g fed w0 T H l m' a w ∧ m' < m
/-- what take answers -/
def TakeR (g : Nat) (fed : Int) (w0 : World) (T : List Tri) (H : List Int) (e : Ending) (w : World) : Prop := ∃ v, e = .returned v ∧ RT w0.heap.size v T w ∧ Sca w g H fed ∧ Scf w0.heap.size g w0 w
def scopeOf (f : Func) : Code := match f.body with | some (.seq _ (.scope c)) => c | _ => .skip
theorem Mem.ret {g : Nat} {fed : Int} {w0 w : World} {h : List Int} {ts T : List Tri} {H : List Int} {a0 : Option Addr} {cap : Nat} {v : Value} (hm : Mem g fed w0 h [] ts a0 cap v w) (hs : ts ++ (scanS h []).1 = T ∧ (scanS h []).2 = H) : TakeR g fed w0 T H (.returned v) w := by
  obtain ⟨rfl, rfl⟩ := hs
  simp only [scanS, List.append_nil]
  exact ⟨v, rfl, hm.row, hm.sca, hm.scf⟩
theorem Mem.tab {g : Nat} {fed : Int} {w0 w : World} {h b : List Int} {ts : List Tri} {a0 : Option Addr} {cap : Nat} {v : Value} (hm : Mem g fed w0 h b ts a0 cap v w) : Tab w := hm.tab0.scf hm.scf hm.tab0.size hm.gne
theorem Mem.head {g : Nat} {fed : Int} {w0 w : World} {h : List Int} {x : Int} {r : List Int} {ts : List Tri} {a0 : Option Addr} {cap : Nat} {v : Value} (hm : Mem g fed w0 h (x :: r) ts a0 cap v w) :
    ∃ gb off, a0 = some ⟨gb, off, none⟩ ∧ w.cell? ⟨gb, off, none⟩ = some (.int .u8 x) ∧ (0 ≤ x ∧ x ≤ 255) ∧ r.length + 1 ≤ cap ∧ r.length + 1 ≤ 140737488351232 ∧ gb < w0.heap.size ∧ gb ≠ g := by
  obtain ⟨h1, h2, h3, h4⟩ := hm.isb
  rcases h3 with h3 | ⟨gb, off, rfl, hL⟩
  · cases h3
  · have hb := hm.blk _ rfl
    exact ⟨gb, off, rfl, (hL.same (hm.scf.block gb hb.1 hb.2)).head.1, hL.head.2, h1, h2, hb.1, hb.2⟩
theorem Mem.next {g : Nat} {fed : Int} {w0 w w' : World} {h h' : List Int} {x : Int} {r : List Int} {ts ts' : List Tri} {gb off cap : Nat} {v v' : Value} (hm : Mem g fed w0 h (x :: r) ts (some ⟨gb, off, none⟩) cap v w)
    (s : Sca w' g h' fed) (f : Scf w0.heap.size g w0 w') (r' : RT w0.heap.size v' ts' w') (hl : ts'.length + h'.length ≤ ts.length + h.length + 1) :
    Mem g fed w0 h' r ts' (if cap = 1 then some ⟨gb, off, none⟩ else some ⟨gb, off + 1, none⟩) (cap - 1) v' w' := by
  obtain ⟨h1, h2, h3, h4⟩ := hm.isb
  have hb := hm.blk _ rfl
  have hl0 := hm.len
  simp only [List.length_cons] at h1 h2 hl0
  have hL : Lies w0 gb off (x :: r) := by
    rcases h3 with h3 | ⟨gb', off', e, hL⟩
    · cases h3
    · cases e; exact hL
  refine ⟨s, f, r', ⟨by omega, by omega, Bs.from1 h1 hL, fun y hy => h4 y (List.mem_cons_of_mem _ hy)⟩, fun a ha => ?_, hm.tab0, hm.gne, by omega, hm.low⟩
  split at ha <;> cases ha <;> exact hb
theorem Mem.stay {g : Nat} {fed : Int} {w0 w w' : World} {h h' b : List Int} {ts ts' : List Tri} {a0 : Option Addr} {cap : Nat} {v v' : Value} (hm : Mem g fed w0 h b ts a0 cap v w)
    (s : Sca w' g h' fed) (f : Scf w0.heap.size g w0 w') (r' : RT w0.heap.size v' ts' w') (hl : ts'.length + h'.length ≤ ts.length + h.length) : Mem g fed w0 h' b ts' a0 cap v' w' :=
  ⟨s, f, r', hm.isb, hm.blk, hm.tab0, hm.gne, by have := hm.len; omega, hm.low⟩
theorem Mem.drew {g : Nat} {fed : Int} {w0 w : World} {h b : List Int} {ts : List Tri} {a0 : Option Addr} {cap : Nat} {v : Value} (hm : Mem g fed w0 h b ts a0 cap v w) (n : Nat) : Mem g fed w0 h b ts a0 cap v (w.drewN n) :=
  hm.stay hm.sca (hm.scf.drewN n) hm.row (Nat.le_refl _)
theorem RT.scf {B g : Nat} {v : Value} {ts : List Tri} {W W' : World} (h : RT B v ts W) (hb : Scf W.heap.size g W W') (hg : g < B) : RT B v ts W' := h.same fun k hk hk' => hb.block k hk' (by omega)
set_option maxRecDepth 100000 in
theorem RT.pushw {B : Nat} {v : Value} {ts : List Tri} {W : World} (h : RT B v ts W) (r : Int) (n : Nat) (hn : ts.length ≤ 4194304) (hB : B ≤ W.heap.size) :
    ∃ g k W', (Builtin.append_ #[57, 57] 57 #[v, .slice (some ⟨W.heap.size, 0, none⟩) 1 1]).run Tryz.prog (W.alloc (.cells #[.int .i32 r, .int .i64 ((n : Int) + 1), .bool true] 82)) = .ok (.slice (some ⟨g, 0, none⟩) (ts.length + 1) k) W' ∧
      RT B (.slice (some ⟨g, 0, none⟩) (ts.length + 1) k) (ts ++ [(r, n + 1, true)]) W' ∧ Below B W W' := h.push r (n + 1) true hn hB
end Go.Proofs.YteamaneompijkaaGreatDoor
end
