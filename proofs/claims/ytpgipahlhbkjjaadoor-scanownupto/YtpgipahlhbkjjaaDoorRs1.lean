/- The document's answer of layer 4: Width, At, Steps. -/
import Derived.Test.YtpgipahlhbkjjaaDoorSaw
import Derived.Test.YtpgipahlhbkjjaaDoorRefV
namespace Go.Proofs.YtpgipahlhbkjjaaDoor
open Go.ChangeShapes Go.WideShapes Go.ChangeAt Go.RowKit

theorem RWhole_is (a0 : Option Addr) (cap n : Nat) (l : List Int) {v : Bool} (w : World) (hn : n = l.length) (hm : l.length ≤ maxLen) (hB : Bs w a0 l) (hv : whole l = v) :
    Calls Tryd.prog 29 #[.slice a0 n cap] w fun e w' => e = .returned (.bool v) ∧ ∃ n, w' = w.drewN n := by
  subst hn hv
  exact RWhole_at a0 cap l w hm hB
theorem RValue_is (a0 : Option Addr) (cap n : Nat) (l : List Int) {v : Int} (w : World) (hn : n = l.length) (hm : l.length ≤ maxLen) (hB : Bs w a0 l) (hv : value l = v) :
    Calls Tryd.prog 36 #[.slice a0 n cap] w fun e w' => e = .returned (.int .i32 v) ∧ ∃ n, w' = w.drewN n := by
  subst hn hv
  exact RValue_at a0 cap l w hm hB
theorem wid_cases (a : Int) (r : List Int) : (whole ((a :: r).take (need a).toNat) = true ∧ wid (a :: r) = (need a).toNat ∧ whl (a :: r) = true ∧ (first (a :: r)).1 = value ((a :: r).take (need a).toNat)) ∨
    (whole ((a :: r).take (need a).toNat) = false ∧ wid (a :: r) = 1 ∧ whl (a :: r) = false ∧ (first (a :: r)).1 = 65533) := by
  cases h : whole ((a :: r).take (need a).toNat) with
  | true =>
    have hn : ¬ (need a).toNat = 0 := fun e => by rw [e] at h; cases h
    exact Or.inl ⟨rfl, by simp [wid, first, h], by simp [whl, lng, h, hn], by simp [first, h]⟩
  | false => exact Or.inr ⟨rfl, by simp [wid, first, h], by simp [whl, lng, h], by simp [first, h]⟩

set_option maxHeartbeats 1000000 in
theorem RWidth_at (g off cap p : Nat) (l : List Int) (w : World) (hL : Lies w g off l) (hcap : l.length ≤ cap) (hm : l.length ≤ 140737488351232) (hp : p < l.length) :
    Calls Tryd.prog 35 #[.slice (some ⟨g, off, none⟩) l.length cap, .int .i64 (p : Int)] w fun e w' => e = .returned (.int .i64 (wid (l.drop p) : Nat)) ∧ ∃ n, w' = w.drewN n := by
  obtain ⟨a, r, hd⟩ : ∃ a r, l.drop p = a :: r := by
    cases hd : l.drop p with
    | nil => have := congrArg List.length hd; simp at this; omega
    | cons a r => exact ⟨a, r, rfl⟩
  have hld := hL.drop p
  rw [hd] at hld
  obtain ⟨hc, ha0, ha1⟩ := hld.head
  have hlr : r.length + 1 = l.length - p := by have := congrArg List.length hd; simp at this; omega
  obtain ⟨n, hn⟩ : ∃ n : Nat, need a = n := need_nat a
  have hcp : ¬ cap = p := by omega
  have hpi : (p : Int) < (l.length : Int) := by omega
  have HD := hide hd
  have hn4 := need_hi a
  rw [hd]
  have HW := hide (wid_cases a r)
  rw [hn, show ((n : Nat) : Int).toNat = n from rfl] at HW
  clear hd
  rcases Nat.eq_zero_or_pos n with h0 | h0
  · subst h0
    have hw : wid (a :: r) = 1 := by
      rcases unhide HW with h | h
      · cases h.1
      · exact h.2.1
    rw [hw]
    clear HW
    go_enter Tryd.func35, Tryd.ntmps35
    go_wp2_with (go_at_call 31; refine (RNeed_any _ _ ha0 ha1).mono ?_; rw [hn]; rintro e w' ⟨rfl, rfl⟩; dsimp only)
    go_ret
    exact ⟨rfl, 0, rfl⟩
  · have e1 : decide ((1 : Int) ≤ (n : Int)) = true := decide_eq_true (by omega)
    have e1' : decide ((n : Int) ≥ 1) = true := decide_eq_true (by omega)
    by_cases hle : p + n ≤ l.length
    · have e2 : decide ((p : Int) + (n : Int) ≤ (l.length : Int)) = true := decide_eq_true (by omega)
      have hlt : ((a :: r).take n).length = n := by simp; omega
      have HLd := hide (hld.take n)
      have hgo : p + n ≤ cap := by omega
      cases hwh : whole ((a :: r).take n) with
      | true =>
        have hw : wid (a :: r) = n := by
          rcases unhide HW with h | h
          · exact h.2.1
          · rw [h.1] at hwh; cases hwh
        rw [hw]
        clear HW
        go_enter Tryd.func35, Tryd.ntmps35
        go_wp2_with (first
          | (go_at_call 31; refine (RNeed_any _ _ ha0 ha1).mono ?_; rw [hn]; rintro e w' ⟨rfl, rfl⟩; dsimp only)
          | (go_at_call 29; refine (RWhole_is _ _ _ ((a :: r).take n) _ hlt.symm (by rw [hlt]; unfold maxLen; omega) (Or.inr ⟨_, _, rfl, unhide HLd⟩) hwh).mono ?_; rintro e w' ⟨rfl, nq, rfl⟩; dsimp only))
        go_ret
        exact ⟨rfl, _, rfl⟩
      | false =>
        have hw : wid (a :: r) = 1 := by
          rcases unhide HW with h | h
          · rw [h.1] at hwh; cases hwh
          · exact h.2.1
        rw [hw]
        clear HW
        go_enter Tryd.func35, Tryd.ntmps35
        go_wp2_with (first
          | (go_at_call 31; refine (RNeed_any _ _ ha0 ha1).mono ?_; rw [hn]; rintro e w' ⟨rfl, rfl⟩; dsimp only)
          | (go_at_call 29; refine (RWhole_is _ _ _ ((a :: r).take n) _ hlt.symm (by rw [hlt]; unfold maxLen; omega) (Or.inr ⟨_, _, rfl, unhide HLd⟩) hwh).mono ?_; rintro e w' ⟨rfl, nq, rfl⟩; dsimp only))
        go_ret
        exact ⟨rfl, _, rfl⟩
    · have e2 : decide ((p : Int) + (n : Int) ≤ (l.length : Int)) = false := decide_eq_false (by omega)
      have hw : wid (a :: r) = 1 := by
        rcases unhide HW with h | h
        · have h1 := h.1
          rw [List.take_of_length_le (by simp; omega), whole_len (by omega)] at h1
          cases h1
        · exact h.2.1
      rw [hw]
      clear HW
      go_enter Tryd.func35, Tryd.ntmps35
      go_wp2_with (go_at_call 31; refine (RNeed_any _ _ ha0 ha1).mono ?_; rw [hn]; rintro e w' ⟨rfl, rfl⟩; dsimp only)
      go_ret
      exact ⟨rfl, 0, rfl⟩

theorem At_whole (a : Int) (r : List Int) : whole ((a :: r).take (wid (a :: r))) = whl (a :: r) ∧ (whl (a :: r) = true → value ((a :: r).take (wid (a :: r))) = (first (a :: r)).1) ∧ (whl (a :: r) = false → (first (a :: r)).1 = 65533 ∧ wid (a :: r) = 1) := by
  rcases wid_cases a r with ⟨h1, h2, h3, h4⟩ | ⟨h1, h2, h3, h4⟩
  · rw [h2, h3, h4]; exact ⟨h1, fun _ => rfl, fun h => by cases h⟩
  · rw [h2, h3]
    refine ⟨?_, (fun h => by cases h), fun _ => ⟨h4, rfl⟩⟩
    show whole [a] = false
    by_cases hn : need a = 1
    · rw [hn] at h1
      exact h1
    · exact whole_len (by simp; omega)

set_option maxHeartbeats 1000000 in
theorem RAt4_at (g off cap p : Nat) (l : List Int) (w : World) (hL : Lies w g off l) (hg : g < w.heap.size) (hcap : l.length ≤ cap) (hm : l.length ≤ 140737488351232) (hp : p < l.length) :
    Calls Tryd.prog 30 #[.slice (some ⟨g, off, none⟩) l.length cap, .int .i64 (p : Int)] w fun e w' => e = .returned (stepV (tri (l.drop p)).1 (tri (l.drop p)).2.1 (tri (l.drop p)).2.2) ∧ Below w.heap.size w w' := by
  obtain ⟨a, r, hd⟩ : ∃ a r, l.drop p = a :: r := by
    cases hd : l.drop p with
    | nil => have := congrArg List.length hd; simp at this; omega
    | cons a r => exact ⟨a, r, rfl⟩
  have hld := hL.drop p
  rw [hd] at hld
  have hw1 := wid_pos hp
  have hw2 := wid_len hp
  have hb0 : Below w.heap.size w (w.alloc (.cells #[.int .i32 0, .int .i64 0, .bool false] 42)) := (Below.refl _ _).alloc (Nat.le_refl _) _
  have HWd := hide (RWidth_at g off cap p l _ (hL.below hb0 hg) hcap hm hp)
  obtain ⟨hA1, hA2, hA3⟩ := At_whole a r
  rw [hd] at hw1 hw2 HWd
  rw [hd]
  simp only [tri]
  have hcp : ¬ cap = p := by omega
  have hlr : r.length + 1 = l.length - p := by have := congrArg List.length hd; simp at this; omega
  have hlt : ((a :: r).take (wid (a :: r))).length = wid (a :: r) := by simp; omega
  have HLd := hide ((hld.take (wid (a :: r))).below hb0 hg)
  have HA1 := hide hA1
  have HA2 := hide hA2
  have HA3 := hide hA3
  generalize hwv : wid (a :: r) = wd at *
  clear hA1 hA2 hA3 hld hd hb0 hwv
  generalize (first (a :: r)).1 = fr at *
  cases hwh : whl (a :: r) with
  | true =>
    rw [hwh] at HA1
    have HA2 := hide (unhide HA2 hwh)
    go_enter Tryd.func30, Tryd.ntmps30
    go_wp2_with (first
      | (go_at_call 35; refine (unhide HWd).mono ?_; rintro e w' ⟨rfl, n1, rfl⟩; dsimp only)
      | (go_at_call 29; refine (RWhole_is _ _ _ ((a :: r).take wd) _ hlt.symm (by rw [hlt]; unfold maxLen; omega) (Or.inr ⟨_, _, rfl, (unhide HLd).drewN _⟩) (unhide HA1)).mono ?_; rintro e w' ⟨rfl, n2, rfl⟩; dsimp only)
      | (go_at_call 36; refine (RValue_is _ _ _ ((a :: r).take wd) _ hlt.symm (by rw [hlt]; unfold maxLen; omega) (Or.inr ⟨_, _, rfl, (unhide HLd).drewN _⟩) (unhide HA2)).mono ?_; rintro e w' ⟨rfl, n3, rfl⟩; dsimp only))
    refine bodyPost_ret (v := stepV fr wd true) (by simp [results, Tryd.results30, go_sem, stepV]) rfl ⟨rfl, ?_⟩
    exact stores3 (Below.drewN ((Below.refl w.heap.size w).alloc (Nat.le_refl _) _) _) (Nat.le_refl _) _ _ _
  | false =>
    rw [hwh] at HA1
    have HF := hide (unhide HA3 hwh)
    go_enter Tryd.func30, Tryd.ntmps30
    go_wp2_with (first
      | (go_at_call 35; refine (unhide HWd).mono ?_; rintro e w' ⟨rfl, n1, rfl⟩; dsimp only)
      | (go_at_call 29; refine (RWhole_is _ _ _ ((a :: r).take wd) _ hlt.symm (by rw [hlt]; unfold maxLen; omega) (Or.inr ⟨_, _, rfl, (unhide HLd).drewN _⟩) (unhide HA1)).mono ?_; rintro e w' ⟨rfl, n2, rfl⟩; dsimp only))
    obtain ⟨f1, f2⟩ := unhide HF
    rw [f1, f2]
    refine bodyPost_ret (v := stepV 65533 1 false) (by simp [results, Tryd.results30, go_sem, stepV]) rfl ⟨rfl, ?_⟩
    exact stores3 (Below.drewN ((Below.refl w.heap.size w).alloc (Nat.le_refl _) _) _) (Nat.le_refl _) _ _ _

/-- .. and what else stays -/
theorem push_stG (W : World) (B n : Nat) (v : Value) (xs : List Value) (a b c : Value) (ty : TypeId) (h : W.ownsRow B 42 3 v n xs) (hn : n ≤ 4194304) (hB : B ≤ W.heap.size) (ha : a.oneCell' = true) (hb : b.oneCell' = true) (hc : c.oneCell' = true) :
    ∃ g k W', (Builtin.append_ #[30, 30] ty #[v, .slice (some ⟨W.heap.size, 0, none⟩) 1 1]).run Tryd.prog (W.alloc (.cells #[a, b, c] 42)) = .ok (.slice (some ⟨g, 0, none⟩) (n + 1) k) W' ∧
      W'.ownsRow B 42 3 (.slice (some ⟨g, 0, none⟩) (n + 1) k) (n + 1) (xs ++ [a, b, c]) ∧ (W.alloc (.cells #[a, b, c] 42)).grownBy W' v.ownBlock := by
  obtain ⟨i, hi, hz, hs, hby⟩ := info_st
  have hr := World.ownsRow.alloc h (.cells #[a, b, c] 42)
  obtain ⟨c0, c1, c2⟩ := three_nw W a b c (t := 42)
  obtain ⟨g, k, W', hrun, ho, hg, _, _⟩ := run_append_lies (P := Tryd.prog) (W.alloc (.cells #[a, b, c] 42)) 30 ty B 42 i (.agg #[.int .i32 0, .int .i64 0, .bool false]) 3 24 Tryd.underlying30 hi hz hs hby rfl (by decide)
    v n xs hr ⟨W.heap.size, 0, none⟩ 1 1 [a, b, c] rfl
    (fun j u hj => by
      match j with
      | 0 => simp at hj; subst hj; rw [Addr.add_lit]; exact c0
      | 1 => simp at hj; subst hj; rw [Addr.add_lit]; exact c1
      | 2 => simp at hj; subst hj; rw [Addr.add_lit]; exact c2
      | j + 3 => simp at hj)
    (fun u hu => by simp at hu; rcases hu with rfl | rfl | rfl <;> assumption) (by decide) (by unfold maxLen; omega) (by omega) (by simp; omega) _ rfl
  exact ⟨g, k, W', hrun, ho, hg⟩

theorem RT.lt {B : Nat} {v : Value} {ts : List Tri} {W : World} (h : RT B v ts W) : ∀ x, v.ownBlock = some x → B ≤ x ∧ x < W.heap.size := World.ownsRow.lt h
theorem RT.pushg {B : Nat} {v : Value} {ts : List Tri} {W : World} (h : RT B v ts W) (r : Int) (n : Nat) (b : Bool) (hn : ts.length ≤ 4194304) (hB : B ≤ W.heap.size) :
    ∃ g k W', (Builtin.append_ #[30, 30] 30 #[v, .slice (some ⟨W.heap.size, 0, none⟩) 1 1]).run Tryd.prog (W.alloc (.cells #[.int .i32 r, .int .i64 (n : Int), .bool b] 42)) = .ok (.slice (some ⟨g, 0, none⟩) (ts.length + 1) k) W' ∧
      RT B (.slice (some ⟨g, 0, none⟩) (ts.length + 1) k) (ts ++ [(r, n, b)]) W' ∧ Below B W W' ∧ ∀ j, j < W.heap.size → (∀ x, v.ownBlock = some x → x ≠ j) → W'.heap[j]? = W.heap[j]? := by
  obtain ⟨g, k, W', h1, h2, h3⟩ := push_stG W B ts.length v (tcs ts) (.int .i32 r) (.int .i64 (n : Int)) (.bool b) 30 h hn hB rfl rfl rfl
  have hr := World.ownsRow.alloc h (.cells #[.int .i32 r, .int .i64 (n : Int), .bool b] 42)
  have hal : Below W.heap.size W (W.alloc (.cells #[.int .i32 r, .int .i64 (n : Int), .bool b] 42)) := (Below.refl _ _).alloc (Nat.le_refl _) _
  refine ⟨g, k, W', h1, by simpa [RT, tcs, tc] using h2, ((Below.refl B W).alloc hB _).grown h3 (by simp; omega) (fun k hk => (hr.lt k hk).1), fun j hj hne => ?_⟩
  rw [h3.block j (by have := hal.size; omega) (fun e => hne j e.symm rfl)]
  exact hal.block j hj

set_option maxHeartbeats 1000000 in
/-- all steps of a text -/
theorem RSteps_at (a0 : Option Addr) (cap : Nat) (l : List Int) (w : World) (hB : IsB w a0 cap l) (hl : l.length ≤ 4194000) :
    Calls Tryd.prog 20 #[.slice a0 l.length cap] w fun e w' => ∃ v, e = .returned v ∧ RT w.heap.size v (stepsL l) w' ∧ Below w.heap.size w w' := by
  have HB := hide hB
  clear hB
  go_enter Tryd.func20, Tryd.ntmps20
  go_wp2_with fail
  go_loopw [3, 4] (fun u i wx => ∃ (p : Nat) (ts : List Tri), i = .int .i64 p ∧ p ≤ l.length ∧ ts.length ≤ p ∧ Hid (ts ++ stepsL (l.drop p) = stepsL l) ∧ Hid (RT w.heap.size u ts wx) ∧ Below w.heap.size w wx) (fun _ i _ => l.length - (intOf i).toNat)
  case atStart => exact ⟨0, [], rfl, Nat.zero_le _, Nat.le_refl _, hide (by simp), RT.nil _ _, Below.refl _ _⟩
  case round =>
    obtain ⟨p, ts, rfl, hp, hts, HS, HR, hb⟩ := hrel
    by_cases hlt : p < l.length
    · obtain ⟨h1, h2, h3, h4⟩ := (unhide HB).below hb (Nat.le_refl _)
      obtain ⟨g, off, rfl, hL, hg⟩ := h3.lies (by omega)
      have hzb := hb.size
      go_wp2_with fail
      refine (RAt4_at g off cap p l _ hL hg h1 h2 hlt).mono ?_
      have hw1 := wid_pos hlt
      have hw2 := wid_len hlt
      have hsn : (ts ++ [tri (l.drop p)]) ++ stepsL (l.drop (p + wid (l.drop p))) = stepsL l := by
        rw [← unhide HS, stepsL_cons (l := l.drop p) (by simp; omega), List.drop_drop]; simp
      have HSN := hide hsn
      clear hsn HS
      unfold tri at HSN ⊢
      generalize wid (l.drop p) = wd at *
      generalize (first (l.drop p)).1 = fr at *
      generalize whl (l.drop p) = wh at *
      unfold stepV
      rintro e w2 ⟨rfl, x2⟩
      have hb2 := hb.trans (x2.mono hzb)
      have x3 : Below w2.heap.size w2 (w2.alloc (.cells #[.int .i32 fr, .int .i64 (wd : Int), .bool wh] 42)) := (Below.refl _ _).alloc (Nat.le_refl _) _
      have z3 : (w2.alloc (.cells #[.int .i32 fr, .int .i64 (wd : Int), .bool wh] 42)).heap.size = w2.heap.size + 1 := by simp
      have hz2 := hb2.size
      obtain ⟨g4, c4, w4, r4, o4, x4, y4⟩ := (((unhide HR).below x2).below x3).pushg fr wd wh (by omega) (by omega)
      have hown := ((unhide HR).below x2).lt
      have cw : w4.cell? ⟨w2.heap.size, 1, none⟩ = some (.int .i64 (wd : Int)) := by
        rw [World.cell?_of_block (a := ⟨w2.heap.size, 1, none⟩) (y4 w2.heap.size (by omega) (fun x hx e => by have := (hown x hx).2; omega))]
        exact (World.cell?_alloc_mark w2 _ _ (0, 0) 1).trans rfl
      rw [z3] at r4
      have R4 := hide r4
      clear r4
      dsimp only
      go_wp2_with (at_builtin; refine wpList_append_known rfl _ _ 30 30 rfl _ _ rfl rfl _ _ (unhide R4) ?_)
      exact ⟨⟨p + wd, ts ++ [(fr, wd, wh)], rfl, by omega, by simp; omega, HSN, hide o4, hb2.trans ((x3.mono hz2).trans x4)⟩, by simp [intOf]; omega⟩
    · obtain rfl : p = l.length := by omega
      have hs := unhide HS
      rw [List.drop_length, stepsL_nil, List.append_nil] at hs
      subst hs
      go_wp2_with fail
      go_ret
      exact ⟨_, rfl, unhide HR, hb⟩
end Go.Proofs.YtpgipahlhbkjjaaDoor
