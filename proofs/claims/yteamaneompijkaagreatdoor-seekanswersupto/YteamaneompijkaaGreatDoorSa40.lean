/- Layer 10's laws: a rope of pieces. · Layer 10: contracts of seek's find and To, settledFrom's given. · Layer 10: the document's To. -/
import Derived.Test.YteamaneompijkaaGreatDoorSa39
import Derived.Test.YteamaneompijkaaGreatDoorSa21
namespace Go.Proofs.YteamaneompijkaaGreatDoor
open Go.ChangeShapes Go.WideShapes Go.ChangeAt Go.RowKit
set_option maxRecDepth 100000
set_option maxHeartbeats 8000000
section
attribute [local go_sem] Oper.semAt_some
structure RoI (w : World) (ls : List (List Int)) (k g : Nat) (o : Option Nd) (X : World) : Prop where
  r : IsRo X g o
  t : txtO o = (ls.take k).flatten
  d : Below w.heap.size w X
theorem flat_take (ls : List (List Int)) {k : Nat} (h : k < ls.length) : (ls.take (k + 1)).flatten = (ls.take k).flatten ++ ls.getD k [] := by
  rw [List.take_succ_eq_append_getElem h, List.flatten_append, List.getD_eq_getElem?_getD, List.getElem?_eq_getElem h]
  simp
theorem flat_le (ls : List (List Int)) (k : Nat) : (ls.take k).flatten.length ≤ ls.flatten.length := by
  have h1 : ls.flatten = (ls.take k).flatten ++ (ls.drop k).flatten := by rw [← List.flatten_append, List.take_append_drop]
  rw [h1, List.length_append]
  omega
theorem Rope10_at (a0 : Option Addr) (cap : Nat) (ls : List (List Int)) (w : World) (h : IsNN w a0 ls) (hs : ls.flatten.length ≤ 268435456) (hlen : ls.length ≤ 4611686018427387904) (hW : Wt w) :
    Calls Tryz.prog 9 #[.slice a0 ls.length cap] w fun y w' => ∃ g o, y = .returned (.pointer (some ⟨g, 0, none⟩)) ∧ IsRo w' g o ∧ txtO o = ls.flatten ∧ Below w.heap.size w w' := by
  have HN := hide (New9_at none 0 [] w ⟨⟨Nat.le_refl _, Nat.zero_le _, Or.inl rfl, fun x hx => by cases hx⟩, fun _ => rfl⟩ (Nat.zero_le _) hW)
  rw [show ([] : List Int).length = 0 from rfl] at HN
  have HW := hide fun (X : World) (hx : Below w.heap.size w X) => hW.below hx
  have HP := hide fun (X : World) (hx : Below w.heap.size w X) => h.below hx (Nat.le_refl _)
  have HS := hide hs
  have HLN := hide hlen
  clear h hs hW
  go_enter Tryz.func9, Tryz.ntmps9
  go_wp2_with fail
  refine (unhide HN).mono ?_
  rintro y w1 ⟨g, o, rfl, hr, ht, _, _, x1⟩
  dsimp only
  have i0 : RoI w ls 0 g o w1 := ⟨hr, by rw [ht]; rfl, x1⟩
  clear HN hr ht x1
  go_wp2_with fail
  go_loopw [3, 4, 5, 6] (fun v3 v4 v5 v6 wx => (∃ z, v6 = z) ∧ ∃ (k g : Nat) (o : Option Nd), v3 = .pointer (some ⟨g, 0, none⟩) ∧ v4 = .int .i64 0 ∧ v5 = .int .i64 (k : Int) ∧ k ≤ ls.length ∧ Hid (RoI w ls k g o wx)) (fun _ _ i _ _ => ls.length - (intOf i).toNat)
  case atStart => exact ⟨⟨_, rfl⟩, 0, g, o, rfl, rfl, rfl, Nat.zero_le _, hide i0⟩
  case round =>
    clear i0
    obtain ⟨⟨z6, rfl⟩, k, g, o, rfl, rfl, rfl, hk, HI⟩ := hrel
    by_cases c : k < ls.length
    · have t1 : (k : Int) < (ls.length : Int) := by omega
      have d1 : decide ((k : Int) < (ls.length : Int)) = true := decide_eq_true t1
      have hI := unhide HI
      rcases unhide HP wr hI.d with hnil | ⟨ga, off, rfl, hga, hrow⟩
      · rw [hnil] at c; exact absurd c (Nat.not_lt_zero _)
      · obtain ⟨A, C, hcell, hN⟩ := hrow k c
        have hle := flat_take ls c
        clear hrow
        generalize ls.getD k [] = pc at *
        have hle2 := flat_le ls (k + 1)
        have hlp : ((ls.take k).flatten).length + pc.length ≤ 268435456 := by
          have := unhide HS
          rw [hle, List.length_append] at hle2
          omega
        have b0 : Below wr.heap.size wr (wr.alloc (.cells #[] 5)) := (Below.refl _ _).alloc (Nat.le_refl _) _
        obtain ⟨v', W', r1, r2, r3, _⟩ := appG 30 (own_lit0S wr) b0.size (hN.1.below b0 (Nat.le_refl _)) (by simp only [List.length_nil]; omega)
        rw [List.nil_append] at r2
        obtain ⟨a', c', rfl, hN'⟩ := own_isNS r2 hN.1.2.2.2 (by omega)
        have XW := hI.d.trans ((b0.trans r3).mono hI.d.size)
        have HNw := hide (New9_at a' c' pc W' hN' (by omega) (unhide HW W' XW))
        have hcell' : (wr.alloc (.cells #[] 5)).cell? ⟨ga, off + k, none⟩ = some (.slice A pc.length C) := (b0.cell (p := ⟨ga, off + k, none⟩) hga).trans hcell
        have R1 := hide r1
        have HR := hide (hI.r.on (b0.trans r3))
        have HT := hide hI.t
        have HF := hide hle
        have HLP := hide hlp
        have HXW := hide XW
        clear r1 r2 r3 hN hN' hI hcell hle hle2 hlp b0 XW hga
        go_wp2_with (at_builtin; refine wpList_append_known rfl _ _ 30 30 rfl _ _ rfl rfl _ _ (unhide R1) ?_)
        refine (unhide HNw).mono ?_
        rintro y w2 ⟨g2, o2, rfl, hr2, ht2, _, _, x2⟩
        dsimp only
        have X2 := (unhide HXW).trans (x2.mono (unhide HXW).size)
        have HJ := hide (RoJoin9_at g g2 o o2 w2 ((unhide HR).on x2) hr2 (by rw [unhide HT, ht2]; exact unhide HLP) (unhide HW w2 X2))
        have HT2 := hide ht2
        clear hr2 ht2 x2 HXW HNw R1 HR
        go_wp2_with fail
        refine (unhide HJ).mono ?_
        rintro y w3 ⟨g3, rfl, hr3, x3⟩
        dsimp only
        have i1 : RoI w ls (k + 1) g3 (joinO o o2) w3 := ⟨hr3, by rw [joinO_txt, unhide HT, unhide HT2, unhide HF], X2.trans (x3.mono X2.size)⟩
        clear HJ hr3 x3 X2
        have wk : wrap64 ((k : Int) + 1) = (k : Int) + 1 := wrap_in _ (by omega) (by omega)
        go_wp2_with fail
        go_roundw
        case rel => exact ⟨⟨_, rfl⟩, k + 1, g3, joinO o o2, rfl, rfl, by push_cast; rfl, by omega, hide i1⟩
        case measure => simp only [intOf]; omega
    · have t1 : ¬ (k : Int) < (ls.length : Int) := by omega
      have d1 : decide ((k : Int) < (ls.length : Int)) = false := decide_eq_false t1
      have hkk : k = ls.length := by omega
      have HK := hide hkk
      clear hkk
      go_wp2_with fail
      refine bodyPost_ret (results_tmp rfl _ _ _) rfl ?_
      have hI := unhide HI
      exact ⟨g, rfl, o, hI.r, by rw [hI.t, unhide HK, List.take_length], hI.d⟩
end
section
attribute [local go_sem] Oper.semAt_some fldS10
theorem EE_any {L : List Int} (hl : ∀ x ∈ L, 0 ≤ x ∧ x ≤ 255) (i : Nat) : ((EE L).getD i e0).1 ≤ L.length := by
  by_cases h : i < (EE L).length
  · exact EE_bytes hl h
  · rw [List.getD_eq_getElem?_getD, List.getElem?_eq_none (by omega)]
    exact Nat.zero_le _
theorem fdE_le {L : List Int} (hl : ∀ x ∈ L, 0 ≤ x ∧ x ≤ 255) (u p m : Int) : (fdE u p m (EE L)).1 ≤ L.length := by
  unfold fdE
  split
  · exact EE_any hl _
  · exact Nat.zero_le _
theorem toP_leS {L : List Int} (hl : ∀ x ∈ L, 0 ≤ x ∧ x ≤ 255) (u p m : Int) : toP u p 1 m (EE L) ≤ L.length := by
  unfold toP
  split
  · exact fdE_le hl u p m
  · exact Nat.zero_le _
theorem find10_no (g N : Nat) (u place m szT zb zr zu ze : Int) (zh zt : ByteArray) (w : World)
    (HLen : Hid (∀ X, Below w.heap.size w X → Calls Tryz.prog 18 #[.pointer (some ⟨g, 0, none⟩)] X fun y w' => y = .returned (.int .i64 (N : Int)) ∧ Below X.heap.size X w'))
    (HWe : Hid (∀ X, Below w.heap.size w X → Calls Tryz.prog 14 #[.pointer (some ⟨g, 0, none⟩)] X fun y w' => y = .returned (.agg #[.int .i64 zb, .int .i64 zr, .int .i64 zu, .int .i64 ze, .string zh, .string zt]) ∧ Below X.heap.size X w'))
    (HB1 : Hid (∀ X, Below w.heap.size w X → Calls Tryz.prog 51 #[.agg #[.int .i64 zb, .int .i64 zr, .int .i64 zu, .int .i64 ze], .int .i64 u] X fun y w' => y = .returned (.int .i64 szT) ∧ Below X.heap.size X w'))
    (h0 : place < 0 ∨ szT < place) :
    Calls Tryz.prog 50 #[.pointer (some ⟨g, 0, none⟩), .int .i64 u, .int .i64 place, .int .i64 m] w fun y w' => y = .returned (.tuple #[.int .i64 0, .int .i64 2]) ∧ Below w.heap.size w w' := by
  by_cases h1 : place < 0
  · have d0 : decide (place < 0) = true := decide_eq_true h1
    clear h0 HWe HB1
    go_enter Tryz.func50, Tryz.ntmps50
    go_wp2_with fail
    refine (unhide HLen w (Below.refl _ _)).mono ?_
    rintro y v1 ⟨rfl, x1⟩
    dsimp only
    go_wp2_with fail
    refine bodyPost_ret (results_tmp2 rfl _ _ _) rfl ?_
    exact ⟨rfl, x1⟩
  · have h2 : szT < place := by omega
    have d0 : decide (place < 0) = false := decide_eq_false h1
    have d1 : decide (szT < place) = true := decide_eq_true h2
    have d2 : decide (place > szT) = true := decide_eq_true h2
    clear h0
    go_enter Tryz.func50, Tryz.ntmps50
    go_wp2_with fail
    refine (unhide HLen w (Below.refl _ _)).mono ?_
    rintro y v1 ⟨rfl, x1⟩
    dsimp only
    go_wp2_with fail
    refine (unhide HWe v1 x1).mono ?_
    rintro y v2 ⟨rfl, x2⟩
    dsimp only
    have X2 := x1.trans (x2.mono x1.size)
    go_wp2_with fail
    refine (unhide HB1 v2 X2).mono ?_
    rintro y v3 ⟨rfl, x3⟩
    dsimp only
    have X3 := X2.trans (x3.mono X2.size)
    go_wp2_with fail
    refine bodyPost_ret (results_tmp2 rfl _ _ _) rfl ?_
    exact ⟨rfl, X3⟩
def SetP (g : Nat) (T : List Int) (u place : Int) (w : World) : Prop := ¬ u = 1 → 0 ≤ place → place ≤ (szE u T : Int) → ∃ near : Nat, NearA T u place near ∧
  ∀ X, Below w.heap.size w X → Calls Tryz.prog 87 #[.func (.func 88) #[.pointer (some ⟨g, 0, none⟩)] #[], .int .i64 (T.length : Int), .int .i64 u, .int .i64 place] X fun y w' => y = .returned (.int .i64 (near : Int)) ∧ Below X.heap.size X w'
theorem find10_at (g : Nat) (o : Option Nd) (u place m : Int) (w : World) (h : IsRo w g o) (hm : (txtO o).length ≤ 268435456) (hW : Wt w) (hu : isRu u = true) (hmo : isRu m = true) (hset : SetP g (txtO o) u place w) :
    Calls Tryz.prog 50 #[.pointer (some ⟨g, 0, none⟩), .int .i64 u, .int .i64 place, .int .i64 m] w fun y w' => y = .returned (.tuple #[.int .i64 ((fdE u place m (EE (txtO o))).1 : Int), .int .i64 (fdR u place m (EE (txtO o)))]) ∧ Below w.heap.size w w' := by
  have hb := bytes_of h
  have hbt : ∀ n, ∀ x ∈ (txtO o).take n, 0 ≤ x ∧ x ≤ 255 := fun n x hx => hb x (List.mem_of_mem_take hx)
  have hLen := fun (X : World) (hx : Below w.heap.size w X) => Len9_at g o X (h.on hx)
  have hWe := fun (X : World) (hx : Below w.heap.size w X) => Weld9_at g o X (h.on hx)
  rw [weq9] at hWe
  have hB : ∀ l : List Int, (∀ x ∈ l, 0 ≤ x ∧ x ≤ 255) → ∀ X, Below w.heap.size w X → Calls Tryz.prog 51 #[.agg #[.int .i64 (szL l).b, .int .i64 (szL l).r, .int .i64 (szL l).u, .int .i64 (szL l).e], .int .i64 u] X fun y w' => y = .returned (.int .i64 (szE u l : Int)) ∧ Below X.heap.size X w' := fun l hl X _ => by
    have := by10_at (szL l) u X
    rw [byZ_is hl hu] at this
    exact this
  by_cases hp : place < 0 ∨ (szE u (txtO o) : Int) < place
  · have hpl : isPl u place (EE (txtO o)) = false := by
      cases hc : isPl u place (EE (txtO o)) with
      | false => rfl
      | true =>
        have := (isPl_iff (inc_EE hb u)).1 hc
        rw [by_last hu] at this
        omega
    have f1 : fdR u place m (EE (txtO o)) = 2 := by unfold fdR; rw [hpl]; rfl
    have f2 : fdE u place m (EE (txtO o)) = e0 := by unfold fdE; rw [f1]; rfl
    rw [f1, f2]
    exact find10_no g _ u place m _ _ _ _ _ _ _ w (hide hLen) (hide hWe) (hide (hB _ hb)) hp
  · have h0 : 0 ≤ place := by omega
    have h1 : place ≤ (szE u (txtO o) : Int) := by omega
    have hz := szE_leS hb u
    obtain ⟨near, hN, hS⟩ : ∃ near : Nat, NearA (txtO o) u place near ∧ (¬ u = 1 → ∀ X, Below w.heap.size w X → Calls Tryz.prog 87 #[.func (.func 88) #[.pointer (some ⟨g, 0, none⟩)] #[], .int .i64 ((txtO o).length : Int), .int .i64 u, .int .i64 place] X fun y w' => y = .returned (.int .i64 (near : Int)) ∧ Below X.heap.size X w') := by
      by_cases hu1 : u = 1
      · exact ⟨place.toNat, .inl ⟨hu1, by omega⟩, fun h => absurd hu1 h⟩
      · obtain ⟨near, a, b⟩ := hset hu1 h0 h1
        exact ⟨near, a, fun _ => b⟩
    obtain ⟨k1, _, _, _⟩ := near_ok hb hu h0 h1 hN
    obtain ⟨f1, f2⟩ := find_ok (m := m) hb hu hmo h0 h1 hN
    have hf := flr_le (txtO o) (near - 4)
    generalize hlo : flr (txtO o) (near - 4) = lo at *
    have hs := szE_leS (hbt lo) u
    rw [List.length_take] at hs
    have hLb : ∀ x ∈ ((txtO o).drop lo).take (min (txtO o).length (near + 4) - lo), 0 ≤ x ∧ x ≤ 255 := fun x hx => hb x (List.mem_of_mem_drop (List.mem_of_mem_take hx))
    have hLl : (((txtO o).drop lo).take (min (txtO o).length (near + 4) - lo)).length ≤ 268435456 := by rw [List.length_take, List.length_drop]; omega
    have hP := toP_leS hLb u (place - (szE u ((txtO o).take lo) : Int)) m
    have hBy := fun (X : World) (hx : Below w.heap.size w X) => BytesR9_at g o lo (min (txtO o).length (near + 4)) X (h.on hx) (by omega) (by omega) hm
    have hAh := fun (X : World) (hx : Below w.heap.size w X) => ahead10_at g o lo X (h.on hx) (by omega) hm (hW.below hx)
    rw [szV_eq] at hAh
    generalize ((txtO o).drop lo).take (min (txtO o).length (near + 4) - lo) = L at *
    have hTo := fun (X : World) (a : Option Addr) (c : Nat) (hx : Below w.heap.size w X) (hI : IsB X a c L) => To_at a c L u (place - (szE u ((txtO o).take lo) : Int)) 1 m X hI (hW.below hx).1
    rw [f1] at hTo
    have hFl := fun (X : World) (hx : Below w.heap.size w X) => floor10_at g o (near - 4) X (h.on hx) hb (by omega) hm (hW.below hx)
    rw [hlo] at hFl
    refine (find10_of g (txtO o).length near (near - 4) lo (min (txtO o).length (near + 4)) u place m (szE u (txtO o) : Int) (szE u ((txtO o).take lo) : Int) (toP u (place - (szE u ((txtO o).take lo) : Int)) 1 m (EE L) : Int) (fdR u place m (EE (txtO o))) _ _ _ _ _ _ _ _ _ _ L w
      (hide hLen) (hide hWe) (hide (hB _ hb)) (hide hS) (hide hFl) (hide hBy) (hide hAh) (hide (hB _ (hbt lo))) (hide hTo) (hide hLb) (hide hLl) h0 h1 (fun hu1 => ?_)
      (wrap_in _ (by omega) (by omega)) (by omega) (wrap_in _ (by omega) (by omega)) (by omega) (wrap_in _ (by omega) (by omega)) (wrap_in _ (by omega) (by omega))).mono ?_
    · rcases hN with ⟨_, e⟩ | ⟨e, _⟩
      · exact e
      · exact absurd hu1 e
    · rintro y w' ⟨rfl, b⟩
      refine ⟨?_, b⟩
      by_cases hR : fdR u place m (EE (txtO o)) = 0
      · rw [if_pos hR, ← f2 hR]
        push_cast
        rfl
      · rw [if_neg hR]
        have : fdE u place m (EE (txtO o)) = e0 := by unfold fdE; rw [if_neg hR]
        rw [this]
        rfl
theorem fdE_inS {r p m : Int} {E : List Ed} (hE : Inc r E) (h : fdR r p m E = 0) : ∃ i, i < E.length ∧ fdE r p m E = E.getD i e0 := by
  have hp := (fdR_ok h).1
  refine ⟨selI r p m E, selI_lt hE hp, ?_⟩
  unfold fdE
  rw [if_pos h]
theorem To10_at (g : Nat) (o : Option Nd) (f place t m : Int) (w : World) (h : IsRo w g o) (hm : (txtO o).length ≤ 268435456) (hW : Wt w) (hk : (isRu f && (isRu t && isRu m)) = true) (hset : ∀ X, Below w.heap.size w X → SetP g (txtO o) f place X) :
    Calls Tryz.prog 20 #[.pointer (some ⟨g, 0, none⟩), .int .i64 f, .int .i64 place, .int .i64 t, .int .i64 m] w fun y w' => y = .returned (.tuple #[.int .i64 (toP f place t m (EE (txtO o)) : Int), .int .i64 (toR f place t m (EE (txtO o)))]) ∧ Below w.heap.size w w' := by
  have hb := bytes_of h
  have hk' := hk
  rw [Bool.and_eq_true, Bool.and_eq_true] at hk'
  obtain ⟨hf, ht, hmo⟩ := hk'
  have e1 : toP f place t m (EE (txtO o)) = byE t (fdE f place m (EE (txtO o))) := by unfold toP; rw [if_pos hk]
  have e2 : toR f place t m (EE (txtO o)) = fdR f place m (EE (txtO o)) := by unfold toR; rw [if_pos hk]
  rw [e1, e2]
  have hle := fdE_le hb f place m
  have hbt : ∀ x ∈ (txtO o).take (fdE f place m (EE (txtO o))).1, 0 ≤ x ∧ x ≤ 255 := fun x hx => hb x (List.mem_of_mem_take hx)
  have hAh := fun (X : World) (hx : Below w.heap.size w X) => ahead10_at g o (fdE f place m (EE (txtO o))).1 X (h.on hx) hle hm (hW.below hx)
  rw [szV_eq] at hAh
  have hkn := fun (X : World) (hx : Below w.heap.size w X) => known10_at f t m X (hW.below hx).1
  have ek : kn3 f t m = 0 := by unfold kn3; rw [if_pos hk]
  rw [ek] at hkn
  have hV : byZ t (szL ((txtO o).take (fdE f place m (EE (txtO o))).1)) = (byE t (fdE f place m (EE (txtO o))) : Int) := by
    rw [byZ_is hbt ht]
    by_cases hR : fdR f place m (EE (txtO o)) = 0
    · obtain ⟨i, hi, ei⟩ := fdE_inS (inc_EE hb f) hR
      rw [ei, sz_take hb ht hi]
    · have : fdE f place m (EE (txtO o)) = e0 := by unfold fdE; rw [if_neg hR]
      rw [this, by_e0, show e0.1 = 0 from rfl, List.take_zero, sz_nil]
  refine To10_of g (fdE f place m (EE (txtO o))).1 f place t m (fdR f place m (EE (txtO o))) _ _ _ _ _ w (hide hkn) (hide fun X hx => find10_at g o f place m X (h.on hx) hm (hW.below hx) hf hmo (hset X hx)) (hide fun _ => hAh) (hide fun X hx => hV ▸ by10_at _ t X) (fun hR => ?_)
  have : fdE f place m (EE (txtO o)) = e0 := by unfold fdE; rw [if_neg hR]
  rw [this, by_e0]
  rfl
end
section
attribute [local go_sem] Oper.semAt_some
theorem to_byP {l : List Int} (hl : ∀ x ∈ l, 0 ≤ x ∧ x ≤ 255) {r t m col : Int} (hr : isRu r = true) (ht : isRu t = true) (hm : isRu m = true) :
    toR r col t m (EE l) = toR r col 1 m (EE l) ∧ (toR r col 1 m (EE l) = 0 → toP r col t m (EE l) = szE t (l.take (toP r col 1 m (EE l)))) ∧ (¬ toR r col 1 m (EE l) = 0 → toP r col t m (EE l) = 0) := by
  have h1 := to_ru hr ht hm col (EE l)
  have h2 := to_ru hr (rfl : isRu 1 = true) hm col (EE l)
  rw [h1.1, h1.2, h2.1, h2.2]
  refine ⟨rfl, fun h => ?_, fun h => ?_⟩
  · obtain ⟨i, hi, ei⟩ := fdE_inS (inc_EE hl r) h
    rw [ei]
    exact (sz_take hl ht hi).symm
  · have : fdE r col m (EE l) = e0 := by unfold fdE; rw [if_neg h]
    rw [this, by_e0]
theorem to_out {l : List Int} (hl : ∀ x ∈ l, 0 ≤ x ∧ x ≤ 255) {r t m col : Int} (hr : isRu r = true) (ht : isRu t = true) (hm : isRu m = true) (h : col < 0 ∨ (szE r l : Int) < col) : toR r col t m (EE l) = 2 ∧ toP r col t m (EE l) = 0 := by
  have hp : isPl r col (EE l) = false := by
    cases hh : isPl r col (EE l) with
    | false => rfl
    | true =>
      have := (isPl_iff (inc_EE hl r)).1 hh
      rw [by_last hr] at this
      omega
  have h1 := to_ru hr ht hm col (EE l)
  have hf : fdR r col m (EE l) = 2 := by unfold fdR; rw [hp]; rfl
  rw [h1.1, h1.2, hf]
  refine ⟨rfl, ?_⟩
  have : fdE r col m (EE l) = e0 := by unfold fdE; rw [hf]; rfl
  rw [this, by_e0]
theorem lnx_all {l : List Int} (hl : ∀ x ∈ l, 0 ≤ x ∧ x ≤ 255) : LnX l 0 l.length := ⟨hl, edge_zero l, edge_len l, Nat.zero_le _, Nat.le_refl _⟩
theorem cut_all (l : List Int) : cutL l 0 l.length = l := by simp [cutL]
theorem cut_to (l : List Int) (q : Nat) : cutL l 0 q = l.take q := by simp [cutL]
def ToI (l : List Int) (r col : Int) (k : Nat) (bl ab : Int) : Prop := ∃ b' : Int, AtQ l 0 l.length r col k b' ab ∧ (bl = b' ∨ (b' = -1 ∧ bl = 0))
theorem ToI.zero (l : List Int) (r col : Int) : ToI l r col 0 0 (-1) := ⟨-1, AtQ.zero l 0 l.length r col, .inr ⟨rfl, rfl⟩⟩
theorem ToI.low {l : List Int} {k : Nat} {r col bl ab : Int} (h : ToI l r col k bl ab) (hk : inR l 0 l.length k) (hc : ccE l 0 r k < col) : ToI l r col (k + 1) ((edN l).getD k 0 : Nat) ab := by
  obtain ⟨b', h1, _⟩ := h
  exact ⟨_, h1.low hk hc, .inl rfl⟩
theorem ToI.high {l : List Int} {k : Nat} {r col bl ab : Int} (h : ToI l r col k bl ab) (hk : inR l 0 l.length k) (hc : col < ccE l 0 r k) : ToI l r col (k + 1) bl (if ab < 0 then ((edN l).getD k 0 : Nat) else ab) := by
  obtain ⟨b', h1, h2⟩ := h
  exact ⟨b', h1.high hk hc, h2⟩
theorem to_end {l : List Int} (h : LnX l 0 l.length) {r m col bl ab : Int} (hr : isRu r = true) (hm : isRu m = true) (h0 : 0 ≤ col) (hn : ¬ toR r col 1 m (EE l) = 2) (hI : ToI l r col (edN l).length bl ab) :
    toR r col 1 m (EE l) = (if m = 3 then 4 else 0) ∧ (m = 1 → bl = ((toP r col 1 m (EE l) : Nat) : Int)) ∧ (m = 2 → ab = ((toP r col 1 m (EE l) : Nat) : Int)) := by
  obtain ⟨b', h1, h2⟩ := hI
  have hab : ¬ ab < 0 := fun hab => by
    have hab1 : ab = -1 := by
      rcases h1.c with ⟨e, _⟩ | ⟨_, _, _, e, _⟩
      · exact e
      · omega
    subst hab1
    have := at_none h (m := m) hr hm h1
    rw [cut_all] at this
    exact hn this
  obtain ⟨s1, s2, s3⟩ := at_some h (m := m) hr hm h0 hab h1
  rw [cut_all] at s1 s2 s3
  refine ⟨s1, fun hm1 => ?_, fun hm2 => ?_⟩
  · have := s2 hm1
    omega
  · have := s3 hm2
    omega
structure TqS (w : World) (gE : Nat) (E : List Nat) (X : World) : Prop where
  d : Below w.heap.size w X
  e : LiesI X gE E
  z : gE < X.heap.size
theorem TqS.on {w : World} {gE : Nat} {E : List Nat} {X Y : World} (h : TqS w gE E X) (hb : Below X.heap.size X Y) : TqS w gE E Y :=
  ⟨h.d.trans (hb.mono h.d.size), h.e.below hb h.z, Nat.lt_of_lt_of_le h.z hb.size⟩
end
end Go.Proofs.YteamaneompijkaaGreatDoor
