/- Layer 7: the document's Size, Floor, Where and At, in a seat that holds scan too (written by wip/tools/lb7.py). -/
import Derived.Test.YteamaneompijkaaGreatDoorSa07
import Derived.Test.YteamaneompijkaaGreatDoorSa19
import Derived.Test.YteamaneompijkaaGreatDoorSa20
namespace Go.Proofs.YteamaneompijkaaGreatDoor
open Go.ChangeShapes Go.WideShapes Go.ChangeAt Go.RowKit
set_option maxRecDepth 100000
set_option maxHeartbeats 8000000
section
def TrisAt (W : World) (a : Option Addr) (ts : List Tri) : Prop := ts = [] ∨ ∃ g, a = some ⟨g, 0, none⟩ ∧ g < W.heap.size ∧ ∀ k, k < ts.length →
  W.cell? ⟨g, k * 3, none⟩ = some (.int .i32 (ts.getD k badT).1) ∧ W.cell? ⟨g, k * 3 + 1, none⟩ = some (.int .i64 ((ts.getD k badT).2.1 : Int)) ∧ W.cell? ⟨g, k * 3 + 2, none⟩ = some (.bool (ts.getD k badT).2.2)
theorem tcs_get : ∀ (ts : List Tri) (k j : Nat), k < ts.length → j < 3 → (tcs ts)[k * 3 + j]? = (tc (ts.getD k badT))[j]?
  | [], k, _, hk, _ => absurd hk (by simp)
  | t :: ts, 0, j, _, hj => by
    rw [tcs, List.flatMap_cons, Nat.zero_mul, Nat.zero_add, List.getElem?_append_left (by simpa [tc] using hj)]; rfl
  | t :: ts, k + 1, j, hk, hj => by
    have ih := tcs_get ts k j (by simpa using hk) hj
    rw [tcs, List.flatMap_cons, List.getElem?_append_right (by simp [tc]; omega), show (k + 1) * 3 + j - (tc t).length = k * 3 + j by simp [tc]; omega]
    simpa [tcs] using ih
theorem RT.at {B : Nat} {v : Value} {ts : List Tri} {W : World} (h : RT B v ts W) : ∃ a cap, v = .slice a ts.length cap ∧ ts.length ≤ cap ∧ TrisAt W a ts ∧ ∀ x, a = some x → B ≤ x.block ∧ x.block < W.heap.size := by
  rcases h.2 with ⟨rfl, h0⟩ | ⟨g, cap, cur, rfl, hB, hg, hle, hm, hs, ht⟩
  · rw [h0]; exact ⟨none, 0, rfl, Nat.le_refl _, Or.inl (List.length_eq_zero_iff.1 h0), fun x hx => by cases hx⟩
  · have hgl : g < W.heap.size := (Array.getElem?_eq_some_iff.1 hg).1
    refine ⟨_, cap, rfl, hle, Or.inr ⟨g, rfl, hgl, fun k hk => ?_⟩, fun x hx => by cases hx; exact ⟨hB, hgl⟩⟩
    have key : ∀ j, j < 3 → W.cell? ⟨g, k * 3 + j, none⟩ = (tc (ts.getD k badT))[j]? := fun j hj => by
      have e := tcs_get ts k j hk hj
      rw [← e, ← ht, List.getElem?_take_of_lt (by omega)]
      simp only [World.cell?, hg]
      simp
    exact ⟨key 0 (by omega), key 1 (by omega), key 2 (by omega)⟩
theorem RValue_is (a0 : Option Addr) (cap n : Nat) (l : List Int) {v : Int} (w : World) (hn : n = l.length) (hm : l.length ≤ maxLen) (hB : Bs w a0 l) (hv : value l = v) :
    Calls Tryz.prog 86 #[.slice a0 n cap] w fun e w' => e = .returned (.int .i32 v) ∧ ∃ n, w' = w.drewN n := by
  subst hn hv
  exact RValue_at a0 cap l w hm hB
theorem At_whole (a : Int) (r : List Int) : whole ((a :: r).take (wid (a :: r))) = whl (a :: r) ∧ (whl (a :: r) = true → value ((a :: r).take (wid (a :: r))) = (first (a :: r)).1) ∧ (whl (a :: r) = false → (first (a :: r)).1 = 65533 ∧ wid (a :: r) = 1) := by
  rcases wid_cases a r with ⟨h1, h2, h3, h4⟩ | ⟨h1, h2, h3, h4⟩
  · rw [h2, h3, h4]; exact ⟨h1, fun _ => rfl, fun h => by cases h⟩
  · rw [h2, h3]
    refine ⟨?_, (fun h => by cases h), fun _ => ⟨h4, rfl⟩⟩
    show whole [a] = false
    by_cases hn : need a = 1
    · rw [hn] at h1
      exact h1
    · exact whole_len (by simp; omega)
theorem RAt4_at (g off cap p : Nat) (l : List Int) (w : World) (hL : Lies w g off l) (hg : g < w.heap.size) (hcap : l.length ≤ cap) (hm : l.length ≤ 140737488351232) (hp : p < l.length) :
    Calls Tryz.prog 48 #[.slice (some ⟨g, off, none⟩) l.length cap, .int .i64 (p : Int)] w fun e w' => e = .returned (stepV (tri (l.drop p)).1 (tri (l.drop p)).2.1 (tri (l.drop p)).2.2) ∧ Below w.heap.size w w' := by
  obtain ⟨a, r, hd⟩ : ∃ a r, l.drop p = a :: r := by
    cases hd : l.drop p with
    | nil => have := congrArg List.length hd; simp at this; omega
    | cons a r => exact ⟨a, r, rfl⟩
  have hld := hL.drop p
  rw [hd] at hld
  have hw1 := wid_pos hp
  have hw2 := wid_len hp
  have hb0 : Below w.heap.size w (w.alloc (.cells #[.int .i32 0, .int .i64 0, .bool false] 82)) := (Below.refl _ _).alloc (Nat.le_refl _) _
  have HWd := hide (RWidth_at g off cap p l _ (hL.below hb0 hg) hcap hm hp)
  obtain ⟨hA1, hA2, hA3⟩ := At_whole a r
  rw [hd] at hw1 hw2 HWd
  rw [hd]
  simp only [tri]
  have hcp : ¬ cap = p := by omega
  have hlr : r.length + 1 = l.length - p := by have := congrArg List.length hd; simp at this; omega
  have hlt : ((a :: r).take (wid (a :: r))).length = wid (a :: r) := by simp; omega
  have HLd := hide ((hld.take (wid (a :: r))).below hb0 hg)
  have HA1 := hide hA1
  have HA2 := hide hA2
  have HA3 := hide hA3
  generalize hwv : wid (a :: r) = wd at *
  clear hA1 hA2 hA3 hld hd hb0 hwv
  generalize (first (a :: r)).1 = fr at *
  cases hwh : whl (a :: r) with
  | true =>
    rw [hwh] at HA1
    have HA2 := hide (unhide HA2 hwh)
    go_enter Tryz.func48, Tryz.ntmps48
    go_wp2_with (first
      | (go_at_call 84; refine (unhide HWd).mono ?_; rintro e w' ⟨rfl, n1, rfl⟩; dsimp only)
      | (go_at_call 85; refine (RWhole_is _ _ _ ((a :: r).take wd) _ hlt.symm (by rw [hlt]; unfold maxLen; omega) (Or.inr ⟨_, _, rfl, (unhide HLd).drewN _⟩) (unhide HA1)).mono ?_; rintro e w' ⟨rfl, n2, rfl⟩; dsimp only)
      | (go_at_call 86; refine (RValue_is _ _ _ ((a :: r).take wd) _ hlt.symm (by rw [hlt]; unfold maxLen; omega) (Or.inr ⟨_, _, rfl, (unhide HLd).drewN _⟩) (unhide HA2)).mono ?_; rintro e w' ⟨rfl, n3, rfl⟩; dsimp only))
    refine bodyPost_ret (v := stepV fr wd true) (by simp [results, Tryz.results48, go_sem, stepV]) rfl ⟨rfl, ?_⟩
    exact stores3 (Below.drewN ((Below.refl w.heap.size w).alloc (Nat.le_refl _) _) _) (Nat.le_refl _) _ _ _
  | false =>
    rw [hwh] at HA1
    have HF := hide (unhide HA3 hwh)
    go_enter Tryz.func48, Tryz.ntmps48
    go_wp2_with (first
      | (go_at_call 84; refine (unhide HWd).mono ?_; rintro e w' ⟨rfl, n1, rfl⟩; dsimp only)
      | (go_at_call 85; refine (RWhole_is _ _ _ ((a :: r).take wd) _ hlt.symm (by rw [hlt]; unfold maxLen; omega) (Or.inr ⟨_, _, rfl, (unhide HLd).drewN _⟩) (unhide HA1)).mono ?_; rintro e w' ⟨rfl, n2, rfl⟩; dsimp only))
    obtain ⟨f1, f2⟩ := unhide HF
    rw [f1, f2]
    refine bodyPost_ret (v := stepV 65533 1 false) (by simp [results, Tryz.results48, go_sem, stepV]) rfl ⟨rfl, ?_⟩
    exact stores3 (Below.drewN ((Below.refl w.heap.size w).alloc (Nat.le_refl _) _) _) (Nat.le_refl _) _ _ _
theorem push_stG (W : World) (B n : Nat) (v : Value) (xs : List Value) (a b c : Value) (ty : TypeId) (h : W.ownsRow B 82 3 v n xs) (hn : n ≤ 4194304) (hB : B ≤ W.heap.size) (ha : a.oneCell' = true) (hb : b.oneCell' = true) (hc : c.oneCell' = true) :
    ∃ g k W', (Builtin.append_ #[57, 57] ty #[v, .slice (some ⟨W.heap.size, 0, none⟩) 1 1]).run Tryz.prog (W.alloc (.cells #[a, b, c] 82)) = .ok (.slice (some ⟨g, 0, none⟩) (n + 1) k) W' ∧
      W'.ownsRow B 82 3 (.slice (some ⟨g, 0, none⟩) (n + 1) k) (n + 1) (xs ++ [a, b, c]) ∧ (W.alloc (.cells #[a, b, c] 82)).grownBy W' v.ownBlock := by
  obtain ⟨i, hi, hz, hs, hby⟩ := info_st
  have hr := World.ownsRow.alloc h (.cells #[a, b, c] 82)
  obtain ⟨c0, c1, c2⟩ := three_nw W a b c (t := 82)
  obtain ⟨g, k, W', hrun, ho, hg, _, _⟩ := run_append_lies (P := Tryz.prog) (W.alloc (.cells #[a, b, c] 82)) 57 ty B 82 i (.agg #[.int .i32 0, .int .i64 0, .bool false]) 3 24 Tryz.underlying57 hi hz hs hby rfl (by decide)
    v n xs hr ⟨W.heap.size, 0, none⟩ 1 1 [a, b, c] rfl
    (fun j u hj => by
      match j with
      | 0 => simp at hj; subst hj; rw [Addr.add_lit]; exact c0
      | 1 => simp at hj; subst hj; rw [Addr.add_lit]; exact c1
      | 2 => simp at hj; subst hj; rw [Addr.add_lit]; exact c2
      | j + 3 => simp at hj)
    (fun u hu => by simp at hu; rcases hu with rfl | rfl | rfl <;> assumption) (by decide) (by unfold maxLen; omega) (by omega) (by simp; omega) _ rfl
  exact ⟨g, k, W', hrun, ho, hg⟩
theorem RT.lt {B : Nat} {v : Value} {ts : List Tri} {W : World} (h : RT B v ts W) : ∀ x, v.ownBlock = some x → B ≤ x ∧ x < W.heap.size := World.ownsRow.lt h
theorem RT.pushg {B : Nat} {v : Value} {ts : List Tri} {W : World} (h : RT B v ts W) (r : Int) (n : Nat) (b : Bool) (hn : ts.length ≤ 4194304) (hB : B ≤ W.heap.size) :
    ∃ g k W', (Builtin.append_ #[57, 57] 57 #[v, .slice (some ⟨W.heap.size, 0, none⟩) 1 1]).run Tryz.prog (W.alloc (.cells #[.int .i32 r, .int .i64 (n : Int), .bool b] 82)) = .ok (.slice (some ⟨g, 0, none⟩) (ts.length + 1) k) W' ∧
      RT B (.slice (some ⟨g, 0, none⟩) (ts.length + 1) k) (ts ++ [(r, n, b)]) W' ∧ Below B W W' ∧ ∀ j, j < W.heap.size → (∀ x, v.ownBlock = some x → x ≠ j) → W'.heap[j]? = W.heap[j]? := by
  obtain ⟨g, k, W', h1, h2, h3⟩ := push_stG W B ts.length v (tcs ts) (.int .i32 r) (.int .i64 (n : Int)) (.bool b) 57 h hn hB rfl rfl rfl
  have hr := World.ownsRow.alloc h (.cells #[.int .i32 r, .int .i64 (n : Int), .bool b] 82)
  have hal : Below W.heap.size W (W.alloc (.cells #[.int .i32 r, .int .i64 (n : Int), .bool b] 82)) := (Below.refl _ _).alloc (Nat.le_refl _) _
  refine ⟨g, k, W', h1, by simpa [RT, tcs, tc] using h2, ((Below.refl B W).alloc hB _).grown h3 (by simp; omega) (fun k hk => (hr.lt k hk).1), fun j hj hne => ?_⟩
  rw [h3.block j (by have := hal.size; omega) (fun e => hne j e.symm rfl)]
  exact hal.block j hj
theorem RSteps_at (a0 : Option Addr) (cap : Nat) (l : List Int) (w : World) (hB : IsB w a0 cap l) (hl : l.length ≤ 4194000) :
    Calls Tryz.prog 19 #[.slice a0 l.length cap] w fun e w' => ∃ v, e = .returned v ∧ RT w.heap.size v (stepsL l) w' ∧ Below w.heap.size w w' := by
  have HB := hide hB
  clear hB
  go_enter Tryz.func19, Tryz.ntmps19
  go_wp2_with fail
  go_loopw [3, 4] (fun u i wx => ∃ (p : Nat) (ts : List Tri), i = .int .i64 p ∧ p ≤ l.length ∧ ts.length ≤ p ∧ Hid (ts ++ stepsL (l.drop p) = stepsL l) ∧ Hid (RT w.heap.size u ts wx) ∧ Below w.heap.size w wx) (fun _ i _ => l.length - (intOf i).toNat)
  case atStart => exact ⟨0, [], rfl, Nat.zero_le _, Nat.le_refl _, hide (by simp), RT.nil _ _, Below.refl _ _⟩
  case round =>
    obtain ⟨p, ts, rfl, hp, hts, HS, HR, hb⟩ := hrel
    by_cases hlt : p < l.length
    · obtain ⟨h1, h2, h3, h4⟩ := (unhide HB).below hb (Nat.le_refl _)
      obtain ⟨g, off, rfl, hL, hg⟩ := h3.lies (by omega)
      have hzb := hb.size
      go_wp2_with fail
      refine (RAt4_at g off cap p l _ hL hg h1 h2 hlt).mono ?_
      have hw1 := wid_pos hlt
      have hw2 := wid_len hlt
      have hsn : (ts ++ [tri (l.drop p)]) ++ stepsL (l.drop (p + wid (l.drop p))) = stepsL l := by
        rw [← unhide HS, stepsL_cons (l := l.drop p) (by simp; omega), List.drop_drop]; simp
      have HSN := hide hsn
      clear hsn HS
      unfold tri at HSN ⊢
      generalize wid (l.drop p) = wd at *
      generalize (first (l.drop p)).1 = fr at *
      generalize whl (l.drop p) = wh at *
      unfold stepV
      rintro e w2 ⟨rfl, x2⟩
      have hb2 := hb.trans (x2.mono hzb)
      have x3 : Below w2.heap.size w2 (w2.alloc (.cells #[.int .i32 fr, .int .i64 (wd : Int), .bool wh] 82)) := (Below.refl _ _).alloc (Nat.le_refl _) _
      have z3 : (w2.alloc (.cells #[.int .i32 fr, .int .i64 (wd : Int), .bool wh] 82)).heap.size = w2.heap.size + 1 := by simp
      have hz2 := hb2.size
      obtain ⟨g4, c4, w4, r4, o4, x4, y4⟩ := (((unhide HR).below x2).below x3).pushg fr wd wh (by omega) (by omega)
      have hown := ((unhide HR).below x2).lt
      have cw : w4.cell? ⟨w2.heap.size, 1, none⟩ = some (.int .i64 (wd : Int)) := by
        rw [World.cell?_of_block (a := ⟨w2.heap.size, 1, none⟩) (y4 w2.heap.size (by omega) (fun x hx e => by have := (hown x hx).2; omega))]
        exact (World.cell?_alloc_mark w2 _ _ (0, 0) 1).trans rfl
      rw [z3] at r4
      have R4 := hide r4
      clear r4
      dsimp only
      go_wp2_with (at_builtin; refine wpList_append_known rfl _ _ 57 57 rfl _ _ rfl rfl _ _ (unhide R4) ?_)
      exact ⟨⟨p + wd, ts ++ [(fr, wd, wh)], rfl, by omega, by simp; omega, HSN, hide o4, hb2.trans ((x3.mono hz2).trans x4)⟩, by simp [intOf]; omega⟩
    · obtain rfl : p = l.length := by omega
      have hs := unhide HS
      rw [List.drop_length, stepsL_nil, List.append_nil] at hs
      subst hs
      go_wp2_with fail
      go_ret
      exact ⟨_, rfl, unhide HR, hb⟩
end
section
theorem ulen_is {r : Int} (h : isRune r = true) : (ulen r).toNat = if 65535 < r then 2 else 1 := by
  unfold ulen
  rw [if_pos h]
  by_cases h1 : r < 65536
  · rw [if_pos h1, if_neg (by omega)]; rfl
  · rw [if_neg h1, if_pos (by omega)]; rfl
theorem stE_upto {l : List Int} {k : Nat} (hk : k < (spots l 0).length) : stE l ((spots l 0).take (k + 1)) = nxE l (stE l ((spots l 0).take k)) ((spots l 0).getD k 0) := by
  rw [List.take_add_one, List.getElem?_eq_getElem hk, Option.toList_some, stE_snoc, List.getD_eq_getElem?_getD, List.getElem?_eq_getElem hk]
  rfl
theorem stepsL_lenE (l : List Int) : (stepsL l).length = (spots l 0).length := by simp [stepsL]
theorem stepsL_at {l : List Int} {k : Nat} (hk : k < (spots l 0).length) : (stepsL l).getD k badT = tri (l.drop ((spots l 0).getD k 0)) := by
  simp [stepsL, List.getElem?_eq_getElem hk]
theorem spot_lt {l : List Int} {k : Nat} (hl : ∀ x ∈ l, 0 ≤ x ∧ x ≤ 255) (hk : k < (spots l 0).length) : (spots l 0).getD k 0 < l.length := by
  have h : (spots l 0).take k ++ [(spots l 0).getD k 0] <+: spots l 0 := by
    have h1 : (spots l 0).take (k + 1) = (spots l 0).take k ++ [(spots l 0).getD k 0] := by
      rw [List.take_add_one, List.getElem?_eq_getElem hk, Option.toList_some, List.getD_eq_getElem?_getD, List.getElem?_eq_getElem hk]
      rfl
    rw [← h1]
    exact List.take_prefix _ _
  exact (st_next hl h).2
theorem RSize7_at (a0 : Option Addr) (cap : Nat) (l : List Int) (r : Int) (w : World) (hB : IsB w a0 cap l) (hl : l.length ≤ 4194000) (hr : r = 1 ∨ r = 2 ∨ r = 3) :
    Calls Tryz.prog 57 #[.slice a0 l.length cap, .int .i64 r] w fun y w' => y = .returned (.int .i64 (szE r l : Int)) ∧ Below w.heap.size w w' := by
  have hin := hB.2.2.2
  by_cases h1 : r = 1
  · subst h1
    rw [sz_bytes hin]
    clear hin hr
    go_enter Tryz.func57, Tryz.ntmps57
    go_wp2_with fail
    go_ret
    exact ⟨rfl, Below.refl _ _⟩
  · have hru : isRu r = true := by rcases hr with rfl | rfl | rfl <;> rfl
    have hS := RSteps_at a0 cap l w hB hl
    have hbnd : ∀ k, k ≤ (spots l 0).length → byE r (stE l ((spots l 0).take k)) ≤ 2 * l.length := fun k hk => by
      obtain ⟨_, _, a3, a4, a5⟩ := st_at hin (List.take_prefix k (spots l 0))
      unfold byE
      rw [if_neg h1]
      split <;> omega
    have hend : szE r l = byE r (stE l ((spots l 0).take (spots l 0).length)) := by unfold szE; rw [if_pos hru, List.take_length]
    have hnx : ∀ k, k < (spots l 0).length → byE r (stE l ((spots l 0).take (k + 1))) = byE r (stE l ((spots l 0).take k)) + (if r = 3 ∧ 65535 < ((stepsL l).getD k badT).1 then 2 else 1) := fun k hk => by
      have hu := ulen_is (rn_step hin (spot_lt hin hk))
      rw [stE_upto hk, stepsL_at hk]
      rcases hr with rfl | rfl | rfl
      · exact absurd rfl h1
      · simp [byE, nxE]
      · simp only [byE, nxE, tri, true_and]
        rw [hu]
        rfl
    rw [hend]
    have HNX := hide hnx
    have HBD := hide hbnd
    have hsl := stepsL_lenE l
    have hsN : (spots l 0).length ≤ l.length := by have := spots_lenS l l.length 0 (by omega) (Nat.zero_le _); omega
    have t1 : (r == 1) = false := by simpa using h1
    clear hnx hbnd hend hin hru hB
    go_enter Tryz.func57, Tryz.ntmps57
    go_wp2_with fail
    refine hS.mono ?_
    rintro e w1 ⟨v, rfl, hR, x1⟩
    obtain ⟨aS, cS, rfl, hcS, hA, _⟩ := hR.at
    rw [hsl] at hcS ⊢
    clear hS hR
    generalize hNN : (spots l 0).length = N at *
    have HNN := hide hNN
    have HSL := hide hsl
    have HA := hide hA
    have HR := hide hr
    have H1 := hide h1
    clear hA t1 hNN hsl hr h1
    go_wp2_with fail
    go_loopw [5, 7] (fun n i wx => ∃ k : Nat, k ≤ N ∧ n = .int .i64 (byE r (stE l ((spots l 0).take k)) : Int) ∧ i = .int .i64 k ∧ wx = w1) (fun _ i _ => N - (intOf i).toNat)
    case atStart => exact ⟨0, Nat.zero_le _, by rcases unhide HR with rfl | rfl | rfl <;> rfl, rfl, rfl⟩
    case round =>
      obtain ⟨k, hk, rfl, rfl, rfl⟩ := hrel
      by_cases hlt : k < N
      · have t2 : decide ((k : Int) < (N : Int)) = true := decide_eq_true (by omega)
        have hnx := unhide HNX k hlt
        have hb1 := unhide HBD k hk
        have hb2 := unhide HBD (k + 1) hlt
        rcases unhide HA with h0 | ⟨gS, rfl, _, hc⟩
        · have hsl := unhide HSL
          rw [h0] at hsl; simp at hsl; omega
        · have c0 := (hc k (by have := unhide HSL; omega)).1
          clear hc
          generalize ((stepsL l).getD k badT).1 = rn at *
          generalize byE r (stE l ((spots l 0).take k)) = nk at *
          clear hb2
          have w1a : wrap64 ((nk : Int) + 1) = ((nk + 1 : Nat) : Int) := by rw [wrap_in _ (by omega) (by omega)]; omega
          have w1b : wrap64 (((nk + 1 : Nat) : Int) + 1) = ((nk + 2 : Nat) : Int) := by rw [wrap_in _ (by omega) (by omega)]; omega
          rcases unhide HR with rfl | rfl | rfl
          · exact absurd rfl (unhide H1)
          · rw [if_neg (by omega)] at hnx
            have HE := hide hnx
            clear hnx
            go_wp2_with fail
            go_roundw
            case rel => exact ⟨k + 1, hlt, by rw [unhide HE]; go_num, by go_num, by trivial⟩
            case measure => simp [intOf]; omega
          · by_cases hbig : 65535 < rn
            · have t3 : decide (65535 < rn) = true := decide_eq_true hbig
              have t3' : decide (rn > 65535) = true := decide_eq_true hbig
              rw [if_pos ⟨rfl, hbig⟩] at hnx
              have HE := hide hnx
              clear hnx
              go_wp2_with fail
              go_roundw
              case rel => exact ⟨k + 1, hlt, by rw [unhide HE]; go_num, by go_num, by trivial⟩
              case measure => simp [intOf]; omega
            · have t3 : decide (65535 < rn) = false := decide_eq_false hbig
              have t3' : decide (rn > 65535) = false := decide_eq_false hbig
              rw [if_neg (fun h => hbig h.2)] at hnx
              have HE := hide hnx
              clear hnx
              go_wp2_with fail
              go_roundw
              case rel => exact ⟨k + 1, hlt, by rw [unhide HE]; go_num, by go_num, by trivial⟩
              case measure => simp [intOf]; omega
      · obtain rfl : k = N := by omega
        have t2 : decide ((k : Int) < (k : Int)) = false := decide_eq_false (by omega)
        go_wp2_with fail
        go_ret
        exact ⟨by rw [unhide HNN]; rfl, x1⟩
end
section
attribute [local go_sem] Oper.semAt_some
def flF (p : Nat) (o e : Nat) : Nat := if e ≤ p then e else o
theorem fl_walk {l : List Int} {p : Nat} (hp : p ≤ l.length) : ∀ (n q o : Nat), l.length - q ≤ n → q ≤ l.length → inside l q = false → (spots l q ++ [l.length]).foldl (flF p) o = if q ≤ p then flr l p else o
  | n, q, o, hn, hq, he => by
    by_cases hlt : q < l.length
    · have hw := wid_pos hlt
      have hw2 := wid_len hlt
      obtain ⟨m, rfl⟩ : ∃ m, n = m + 1 := ⟨n - 1, by omega⟩
      rw [spots_cons hlt, List.cons_append, List.foldl_cons, fl_walk hp m (q + wid (l.drop q)) (flF p o q) (by omega) (by omega) (edge_next he hlt)]
      by_cases h1 : q ≤ p
      · rw [if_pos h1]
        by_cases h2 : q + wid (l.drop q) ≤ p
        · rw [if_pos h2]
        · rw [if_neg h2]
          unfold flF
          rw [if_pos h1]
          refine (flr_is h1 he (fun j h3 h4 => ?_)).symm
          have := edge_between (l := l) (p := q) (k := j - q) (by omega) (by omega) hlt
          rwa [show q + (j - q) = j by omega] at this
      · rw [if_neg h1, if_neg (by omega)]
        unfold flF
        rw [if_neg h1]
    · obtain rfl : q = l.length := by omega
      rw [spots_end hlt, List.nil_append, List.foldl_cons, List.foldl_nil]
      unfold flF
      by_cases h1 : l.length ≤ p
      · obtain rfl : p = l.length := by omega
        rw [if_pos h1, if_pos h1, flr_eq (edge_len l)]
      · rw [if_neg h1, if_neg h1]
theorem fl_all {l : List Int} {p : Nat} (hp : p ≤ l.length) : (spots l 0 ++ [l.length]).foldl (flF p) 0 = flr l p := by
  rw [fl_walk hp l.length 0 0 (by omega) (Nat.zero_le _) (edge_zero l), if_pos (Nat.zero_le _)]
theorem fl_next (p : Nat) (E : List Nat) {k : Nat} (hk : k < E.length) : (E.take (k + 1)).foldl (flF p) 0 = if E.getD k 0 ≤ p then E.getD k 0 else (E.take k).foldl (flF p) 0 := by
  rw [List.take_add_one, List.getElem?_eq_getElem hk, Option.toList_some, List.foldl_append, List.foldl_cons, List.foldl_nil, List.getD_eq_getElem?_getD, List.getElem?_eq_getElem hk]
  rfl
theorem edN_le {l : List Int} (hl : ∀ x ∈ l, 0 ≤ x ∧ x ≤ 255) {k : Nat} (hk : k < (spots l 0 ++ [l.length]).length) : (spots l 0 ++ [l.length]).getD k 0 ≤ l.length := by
  rcases Nat.lt_or_ge k (spots l 0).length with h | h
  · have := spot_lt hl h
    rw [List.getD_eq_getElem?_getD, List.getElem?_append_left h, ← List.getD_eq_getElem?_getD]
    omega
  · have : k = (spots l 0).length := by simp at hk; omega
    subst this
    simp
theorem RFloor7_at (a0 : Option Addr) (cap : Nat) (l : List Int) (p : Nat) (w : World) (hB : IsB w a0 cap l) (hl : l.length ≤ 1048576) (hp : p ≤ l.length) :
    Calls Tryz.prog 59 #[.slice a0 l.length cap, .int .i64 (p : Int)] w fun y w' => y = .returned (.int .i64 (flr l p : Int)) ∧ Below w.heap.size w w' := by
  have hE := Edges4_at a0 cap l w hB hl
  rw [← fl_all hp]
  clear hp
  have hsN : (spots l 0).length ≤ l.length := by have := spots_lenS l l.length 0 (by omega) (Nat.zero_le _); omega
  go_enter Tryz.func59, Tryz.ntmps59
  go_wp2_with fail
  refine hE.mono ?_
  rintro y w1 ⟨v, rfl, o1, x1⟩
  clear hE
  have hlen : (spots l 0).length + 1 = (spots l 0 ++ [l.length]).length := by simp
  rw [hlen] at o1
  have hn : (spots l 0 ++ [l.length]).length ≤ l.length + 1 := by rw [← hlen]; omega
  obtain ⟨gE, cE, rfl, lE, zE⟩ := rowI (ps := spots l 0 ++ [l.length]) o1 (by simp)
  have HLE := hide lE
  clear o1 lE hlen hsN hB
  generalize hEE : spots l 0 ++ [l.length] = E at *
  have HEE := hide hEE
  clear hEE
  go_wp2_with fail
  go_loopw [6, 7] (fun o i wx => ∃ k : Nat, k ≤ E.length ∧ o = .int .i64 ((E.take k).foldl (flF p) 0 : Nat) ∧ i = .int .i64 k ∧ wx = w1) (fun _ i _ => E.length - (intOf i).toNat)
  case atStart => exact ⟨0, Nat.zero_le _, rfl, rfl, rfl⟩
  case round =>
    obtain ⟨k, hk, rfl, rfl, rfl⟩ := hrel
    by_cases hlt : k < E.length
    · have t1 := lt_int hlt
      have c0 := unhide HLE k hlt
      have hnx := fl_next p E hlt
      generalize E.getD k 0 = e at *
      generalize (E.take k).foldl (flF p) 0 = o at *
      by_cases h1 : e ≤ p
      · have t2 : decide ((e : Int) ≤ (p : Int)) = true := decide_eq_true (by omega)
        rw [if_pos h1] at hnx
        go_wp2_with fail
        go_roundw
        case rel => exact ⟨k + 1, hlt, by rw [hnx], by go_num, by trivial⟩
        case measure => simp [intOf]; omega
      · have t2 : decide ((e : Int) ≤ (p : Int)) = false := decide_eq_false (by omega)
        rw [if_neg h1] at hnx
        go_wp2_with fail
        go_roundw
        case rel => exact ⟨k + 1, hlt, by rw [hnx], by go_num, by trivial⟩
        case measure => simp [intOf]; omega
    · obtain rfl : k = E.length := by omega
      have t1 : decide ((E.length : Int) < (E.length : Int)) = false := decide_eq_false (by omega)
      rw [List.take_length]
      go_wp2_with fail
      go_ret
      exact ⟨by rw [unhide HEE]; rfl, x1⟩
def LiesR (W : World) (g : Nat) (E : List Ln) : Prop := ∀ k, k < E.length → W.cell? ⟨g, k * 3, none⟩ = some (.int .i64 ((E.getD k z4).2.1 : Int)) ∧ W.cell? ⟨g, k * 3 + 1, none⟩ = some (.int .i64 ((E.getD k z4).2.2.1 : Int)) ∧ W.cell? ⟨g, k * 3 + 2, none⟩ = some (.int .i64 ((E.getD k z4).2.2.2 : Int))
theorem rowR {W : World} {B : Nat} {v : Value} {E : List Ln} (h : W.ownsRow B 76 3 v E.length (rowsV E)) (h0 : 0 < E.length) : ∃ g c, v = .slice (some ⟨g, 0, none⟩) E.length c ∧ LiesR W g E ∧ g < W.heap.size := by
  have hc := h
  rcases h.2 with ⟨rfl, hz⟩ | ⟨g, cap, cur, rfl, _, hg, hle, _⟩
  · omega
  · refine ⟨g, cap, rfl, fun k hk => ?_, heap_lt hg⟩
    obtain ⟨r0, r1, r2⟩ := rowsV_get E hk
    have c0 := World.ownsRow.cells hc rfl _ _ r0
    have c1 := World.ownsRow.cells hc rfl _ _ r1
    have c2 := World.ownsRow.cells hc rfl _ _ r2
    rw [Addr.add_lit, Nat.zero_add] at c0 c1 c2
    exact ⟨c0, c1, c2⟩
structure LaF (E : List Ln) (p i k : Nat) : Prop where
  a : k < i ∨ k = 0
  b : k < E.length
  c : (E.getD k z4).2.1 ≤ p
  d : ∀ j, k < j → j < i → p < (E.getD j z4).2.1
theorem la_of {l : List Int} {p k : Nat} (hp : p ≤ l.length) (h : LaF (LN l) p (LN l).length k) : (lnOf l p).1 = k ∧ lnOf l p = (LN l).getD k z4 := by
  obtain ⟨i, hi⟩ := ho_of hp
  have hio : ((LN l).getD i z4).2.1 ≤ p := by rw [← hi.eq]; exact hi.lo
  have e : i = k := by
    rcases Nat.lt_trichotomy i k with h1 | h1 | h1
    · have h2 := hi.up (by have := h.b; omega)
      have h3 := lst_mono (l := l) (i := i + 1) (j := k) h1 h.b
      have h4 := h.c
      omega
    · exact h1
    · have := h.d i h1 hi.lt
      omega
  subst e
  exact ⟨(lnOf_is hi.lt hio (by rw [← hi.eq]; exact hi.hi)).2, hi.eq⟩
theorem RLine7_at (g c : Nat) (l : List Int) (p : Nat) (w : World) (hR : LiesR w g (LN l)) (hl : l.length ≤ 1048576) (hp : p ≤ l.length) :
    Calls Tryz.prog 61 #[.slice (some ⟨g, 0, none⟩) (LN l).length c, .int .i64 (p : Int)] w fun y w' => y = .returned (.int .i64 ((lnOf l p).1 : Int)) ∧ w' = w := by
  have hN := LN_len l
  have hN1 := LN_pos l
  have HF := hide fun k => la_of (k := k) hp
  have h0 : ((LN l).getD 0 z4).2.1 ≤ p := by
    obtain ⟨i, hi⟩ := ho_of hp
    have h1 := lst_mono (l := l) (Nat.zero_le i) hi.lt
    have h2 := hi.lo
    rw [hi.eq] at h2
    omega
  have HR := hide hR
  clear hR hp
  generalize (lnOf l p).1 = q at *
  generalize hE : LN l = E at *
  clear hE
  go_enter Tryz.func61, Tryz.ntmps61
  go_wp2_with fail
  go_loopw [5, 6] (fun o i wx => ∃ k j : Nat, k ≤ E.length ∧ o = .int .i64 (j : Int) ∧ i = .int .i64 k ∧ Hid (LaF E p k j) ∧ wx = w) (fun _ i _ => E.length - (intOf i).toNat)
  case atStart => exact ⟨0, 0, Nat.zero_le _, rfl, rfl, hide ⟨Or.inr rfl, hN1, h0, fun j _ h => by omega⟩, rfl⟩
  case round =>
    obtain ⟨k, j, hk, rfl, rfl, HI, rfl⟩ := hrel
    by_cases hlt : k < E.length
    · have t1 := lt_int hlt
      have c0 := (unhide HR k hlt).1
      have hyes : (E.getD k z4).2.1 ≤ p → Hid (LaF E p (k + 1) k) := fun h => hide ⟨Or.inl (Nat.lt_succ_self _), hlt, h, fun m h1 h2 => by omega⟩
      have hno : p < (E.getD k z4).2.1 → Hid (LaF E p (k + 1) j) := fun h => hide ⟨by rcases (unhide HI).a with h1 | h1 <;> omega, (unhide HI).b, (unhide HI).c, fun m h1 h2 => by
        rcases Nat.lt_or_ge m k with h3 | h3
        · exact (unhide HI).d m h1 h3
        · obtain rfl : m = k := by omega
          exact h⟩
      generalize (E.getD k z4).2.1 = st at *
      by_cases h1 : st ≤ p
      · have t2 : decide ((st : Int) ≤ (p : Int)) = true := decide_eq_true (by omega)
        have H2 := hyes h1
        clear hyes hno h0
        go_wp2_with fail
        go_roundw
        case rel => exact ⟨k + 1, k, hlt, rfl, by go_num, H2, by trivial⟩
        case measure => simp [intOf]; omega
      · have t2 : decide ((st : Int) ≤ (p : Int)) = false := decide_eq_false (by omega)
        have H2 := hno (by omega)
        clear hyes hno h0
        go_wp2_with fail
        go_roundw
        case rel => exact ⟨k + 1, j, hlt, rfl, by go_num, H2, by trivial⟩
        case measure => simp [intOf]; omega
    · obtain rfl : k = E.length := by omega
      have t1 : decide ((E.length : Int) < (E.length : Int)) = false := decide_eq_false (by omega)
      have hq := (unhide HF j (unhide HI)).1
      subst hq
      go_wp2_with fail
      go_ret
      exact ⟨rfl, rfl⟩
end
section
attribute [local go_sem] Oper.semAt_some
theorem resWR {X : World} {a : Nat} {t : TypeId} {x0 x1 x2 x3 x4 x5 x6 : Int} {v : Value} (tmps : Array Value) (g4 : tmps[4]?.getD undef = .pointer (some ⟨a, 0, none⟩)) (g5 : tmps[5]?.getD undef = v)
    (h : Cls X a t #[.int .i64 x0, .int .i64 x1, .int .i64 x2, .int .i64 x3, .int .i64 x4, .int .i64 x5, .int .i64 x6]) : (results Tryz.f25 tmps).run Tryz.prog X = .ok (.tuple #[.agg #[.int .i64 x0, .int .i64 x1, .int .i64 x2, .int .i64 x3, .int .i64 x4, .int .i64 x5, .int .i64 x6], v]) X := by
  have p0 : X.cell? ⟨a, 0, none⟩ = some (.int .i64 x0) := (h.cell 0).trans rfl
  have p1 : X.cell? ⟨a, 1, none⟩ = some (.int .i64 x1) := (h.cell 1).trans rfl
  have p2 : X.cell? ⟨a, 2, none⟩ = some (.int .i64 x2) := (h.cell 2).trans rfl
  have p3 : X.cell? ⟨a, 3, none⟩ = some (.int .i64 x3) := (h.cell 3).trans rfl
  have p4 : X.cell? ⟨a, 4, none⟩ = some (.int .i64 x4) := (h.cell 4).trans rfl
  have p5 : X.cell? ⟨a, 5, none⟩ = some (.int .i64 x5) := (h.cell 5).trans rfl
  have p6 : X.cell? ⟨a, 6, none⟩ = some (.int .i64 x6) := (h.cell 6).trans rfl
  simp [results, Tryz.results25, go_sem, g4, g5, p0, p1, p2, p3, p4, p5, p6]
theorem RWhere7_at (a0 : Option Addr) (cap : Nat) (l : List Int) (place : Int) (w : World) (hB : IsB w a0 cap l) (hl : l.length ≤ 1048576) :
    Calls Tryz.prog 25 #[.slice a0 l.length cap, .int .i64 place] w fun y w' => y = .returned (whV l place) ∧ Below w.heap.size w w' := by
  have kS : Cls (w.alloc (.cells #[.int .i64 0, .int .i64 0, .int .i64 0, .int .i64 0, .int .i64 0, .int .i64 0, .int .i64 0] 61)) w.heap.size 61 wh0 := Cls.new w 61 _
  have b0 := (Below.refl w.heap.size w).alloc (Nat.le_refl _) (.cells #[.int .i64 0, .int .i64 0, .int .i64 0, .int .i64 0, .int .i64 0, .int .i64 0, .int .i64 0] 61)
  by_cases hp : place < 0 ∨ (l.length : Int) < place
  · have HV : Hid (whV l place = .tuple #[.agg #[.int .i64 0, .int .i64 0, .int .i64 0, .int .i64 0, .int .i64 0, .int .i64 0, .int .i64 0], .int .i64 2]) := hide (by unfold whV; rw [if_pos hp]; rfl)
    have c0 := cells7 kS 0 (by decide)
    have f0 := kS.frozen 0
    have c1 := cells7 kS 1 (by decide)
    have f1 := kS.frozen 1
    have c2 := cells7 kS 2 (by decide)
    have f2 := kS.frozen 2
    have c3 := cells7 kS 3 (by decide)
    have f3 := kS.frozen 3
    have c4 := cells7 kS 4 (by decide)
    have f4 := kS.frozen 4
    have c5 := cells7 kS 5 (by decide)
    have f5 := kS.frozen 5
    have c6 := cells7 kS 6 (by decide)
    have f6 := kS.frozen 6
    have HT : Hid ((decide (place < 0) = true) ∨ (decide (place < 0) = false ∧ decide (place > (l.length : Int)) = true ∧ decide ((l.length : Int) < place) = true)) := hide (by
      by_cases h1 : place < 0
      · exact Or.inl (decide_eq_true h1)
      · exact Or.inr ⟨decide_eq_false h1, decide_eq_true (by omega), decide_eq_true (by omega)⟩)
    clear hp hB hl
    go_enter Tryz.func25, Tryz.ntmps25
    go_upto_region 1 with fail
    generalize w.alloc (.cells #[.int .i64 0, .int .i64 0, .int .i64 0, .int .i64 0, .int .i64 0, .int .i64 0, .int .i64 0] 61) = w0 at *
    obtain ⟨s1, s2⟩ := sets7 _ _ (.int .i64 0) (.int .i64 0) (.int .i64 0) (.int .i64 0) (.int .i64 0) (.int .i64 0) (.int .i64 0) kS
    have HB := hide (b0.trans s2)
    have HS := hide s1
    clear s1 s2 b0 kS
    rcases unhide HT with t1 | ⟨t1, t2, t3⟩
    · go_wp2_with fail
      refine bodyPost_ret (resWR _ rfl rfl (unhide HS)) rfl ?_
      rw [unhide HV]
      exact ⟨rfl, unhide HB⟩
    · go_wp2_with fail
      refine bodyPost_ret (resWR _ rfl rfl (unhide HS)) rfl ?_
      rw [unhide HV]
      exact ⟨rfl, unhide HB⟩
  · have hv : whV l place = .tuple #[.agg (whC l (flr l place.toNat)), .int .i64 0] := by unfold whV; rw [if_neg hp]
    obtain ⟨pp, rfl⟩ : ∃ pp : Nat, place = (pp : Int) := ⟨place.toNat, by omega⟩
    have hpl : pp ≤ l.length := by omega
    have t1 : decide ((pp : Int) < 0) = false := decide_eq_false (by omega)
    have t2 : decide ((pp : Int) > (l.length : Int)) = false := decide_eq_false (by omega)
    have t3 : decide ((l.length : Int) < (pp : Int)) = false := decide_eq_false (by omega)
    rw [Int.toNat_natCast] at hv
    have HV := hide hv
    clear hv hp
    have hB0 := hB.below b0 (Nat.le_refl _)
    go_enter Tryz.func25, Tryz.ntmps25
    go_wp2_with fail
    generalize w.alloc (.cells #[.int .i64 0, .int .i64 0, .int .i64 0, .int .i64 0, .int .i64 0, .int .i64 0, .int .i64 0] 61) = w0 at *
    refine (RFloor7_at a0 cap l pp w0 hB0 hl hpl).mono ?_
    rintro y w1 ⟨rfl, x1⟩
    have hple : flr l pp ≤ l.length := by have := flr_le l pp; omega
    generalize flr l pp = p at *
    have b1 := b0.trans (x1.mono b0.size)
    have kS1 := kS.below x1 kS.lt
    have hB1 := hB.below b1 (Nat.le_refl _)
    clear kS b0 x1 hB0 t1 t2 t3 hpl
    go_wp2_with fail
    refine (Rows_at a0 cap l w1 hB1 hl).mono ?_
    rintro y w2 ⟨v, rfl, o2, x2⟩
    have b2 := b1.trans (x2.mono b1.size)
    have kS2 := kS1.below x2 kS1.lt
    obtain ⟨gR, cR, rfl, lR, zR⟩ := rowR o2 (LN_pos l)
    clear kS1 b1 x2 hB1 o2
    go_wp2_with fail
    refine (RLine7_at gR cR l p w2 lR hl hple).mono ?_
    rintro y w3 ⟨rfl, hw3⟩
    rw [hw3]
    clear hw3 w3
    obtain ⟨i, hi⟩ := ho_of hple
    have hlo := hi.lo
    have hln := (lnOf_is hi.lt (by rw [← hi.eq]; exact hi.lo) (by rw [← hi.eq]; exact hi.hi)).2
    have c1 := (lR i hi.lt).1
    rw [← hi.eq, ← hln] at c1
    have hlt : (lnOf l p).1 < (LN l).length := by rw [hln]; exact hi.lt
    have hcap := hB.1
    have hlen := hB.2.1
    have hpc : p ≤ cap := by omega
    have hLn : (cutL l (lnOf l p).2.1 p).length = p - (lnOf l p).2.1 := by unfold cutL; simp; omega
    have hTn : (l.take p).length = p := by simp; omega
    have sz1 : ∀ (r : Int), r = 1 ∨ r = 2 ∨ r = 3 → ∀ (X : World), Below w.heap.size w X → Calls Tryz.prog 57 #[.slice a0 p cap, .int .i64 r] X fun y w' => y = .returned (.int .i64 (szE r (l.take p) : Int)) ∧ Below X.heap.size X w' := fun r hr X hX => by
      have := RSize7_at _ _ (l.take p) r X ((hB.below hX (Nat.le_refl _)).takeR (n := p)) (by omega) hr
      rw [hTn] at this
      exact this
    have sz2 : ∀ (r : Int), r = 1 ∨ r = 2 ∨ r = 3 → ∀ (X : World), Below w.heap.size w X → Calls Tryz.prog 57 #[.slice (if cap = (lnOf l p).2.1 then a0 else a0.map (·.add (lnOf l p).2.1)) (p - (lnOf l p).2.1) (cap - (lnOf l p).2.1), .int .i64 r] X fun y w' => y = .returned (.int .i64 (szE r (cutL l (lnOf l p).2.1 p) : Int)) ∧ Below X.heap.size X w' := fun r hr X hX => by
      have := RSize7_at _ _ (cutL l (lnOf l p).2.1 p) r X (((hB.below hX (Nat.le_refl _)).takeR (n := p)).loR (n := (lnOf l p).2.1)) (by rw [hLn]; omega) hr
      rw [hLn] at this
      exact this
    have hwc : whC l p = #[.int .i64 (p : Int), .int .i64 (szE 2 (l.take p) : Int), .int .i64 (szE 3 (l.take p) : Int), .int .i64 ((lnOf l p).1 : Int), .int .i64 ((p - (lnOf l p).2.1 : Nat) : Int), .int .i64 (szE 2 (cutL l (lnOf l p).2.1 p) : Int), .int .i64 (szE 3 (cutL l (lnOf l p).2.1 p) : Int)] := rfl
    rw [hwc] at HV
    clear hB hLn hTn hwc hln hi i lR
    have S1 := hide sz1
    have S2 := hide sz2
    clear sz1 sz2
    generalize (lnOf l p).2.1 = st at *
    generalize (lnOf l p).1 = kk at *
    by_cases hcx : cap = st
    · have HC := hide (by have := unhide S2; rw [if_pos hcx] at this; exact this)
      have sub0 : cap - st = 0 := by omega
      have sub2 : p = st := by omega
      rw [sub0] at HC
      subst hcx
      subst sub2
      have z0 : p - p = 0 := Nat.sub_self _
      rw [z0] at HC
      clear S2
      go_wp2_with fail
      have b3 : Below w.heap.size w w2.drew := b2.trans (ch_drew (N := w.heap.size) (n := 0) w2).1
      have kS3 : Cls w2.drew _ _ wh0 := kS2
      clear b2 kS2
      refine regionL (S := fun _ => True) (fun _ => false) (by kernel_rfl) ?_
      generalize w2.drew = v0 at *
      refine anyL_take (i := 0) (v := ?vp0) rfl (by kernel_rfl) (by kernel_rfl) (by kernel_rfl) (by kernel_rfl) (fun _ _ _ h => h) (Or.inl ⟨by rfl, ?hp0⟩) (trivial) ?_
      case hp0 => (intro w hSw; (try dsimp only at hSw); go_simp) <;> with_reducible rfl
      simp only [Act.put, List.getElem_toArray, List.getElem_cons_zero, List.setIfInBounds_toArray, List.set_cons_zero, List.set_cons_succ]
      refine anyL_take (i := 1) (v := ?vp1) rfl (by kernel_rfl) (by kernel_rfl) (by kernel_rfl) (by kernel_rfl) (fun _ _ _ h => h) (Or.inl ⟨by rfl, ?hp1⟩) (trivial) ?_
      case hp1 => (intro w hSw; (try dsimp only at hSw); go_simp) <;> with_reducible rfl
      simp only [Act.put, List.getElem_toArray, List.getElem_cons_zero, List.getElem_cons_succ, List.setIfInBounds_toArray, List.set_cons_zero, List.set_cons_succ]
      refine anyL_take (i := 2) (v := ?vp2) rfl (by kernel_rfl) (by kernel_rfl) (by kernel_rfl) (by kernel_rfl) (fun _ _ _ h => h) (Or.inl ⟨by rfl, ?hp2⟩) (trivial) ?_
      case hp2 => (intro w hSw; (try dsimp only at hSw); go_simp) <;> with_reducible rfl
      simp only [Act.put, List.getElem_toArray, List.getElem_cons_zero, List.getElem_cons_succ, List.setIfInBounds_toArray, List.set_cons_zero, List.set_cons_succ]
      refine anyL_take (i := 3) (v := ?vp3) rfl (by kernel_rfl) (by kernel_rfl) (by kernel_rfl) (by kernel_rfl) (fun _ _ _ h => h) (Or.inl ⟨by rfl, ?hp3⟩) (trivial) ?_
      case hp3 => (intro w hSw; (try dsimp only at hSw); go_simp) <;> with_reducible rfl
      simp only [Act.put, List.getElem_toArray, List.getElem_cons_zero, List.getElem_cons_succ, List.setIfInBounds_toArray, List.set_cons_zero, List.set_cons_succ]
      refine anyL_take (i := 5) (v := ?vp4) rfl (by kernel_rfl) (by kernel_rfl) (by kernel_rfl) (by kernel_rfl) (fun _ _ _ h => h) (Or.inl ⟨by rfl, ?hp4⟩) (trivial) ?_
      case hp4 => (intro w hSw; (try dsimp only at hSw); go_simp) <;> with_reducible rfl
      simp only [Act.put, List.getElem_toArray, List.getElem_cons_zero, List.getElem_cons_succ, List.setIfInBounds_toArray, List.set_cons_zero, List.set_cons_succ]
      refine anyL_take (i := 6) (v := ?vp5) rfl (by kernel_rfl) (by kernel_rfl) (by kernel_rfl) (by kernel_rfl) (fun _ _ _ h => h) (Or.inl ⟨by rfl, ?hp5⟩) (trivial) ?_
      case hp5 => (intro w hSw; (try dsimp only at hSw); go_simp) <;> with_reducible rfl
      simp only [Act.put, List.getElem_toArray, List.getElem_cons_zero, List.getElem_cons_succ, List.setIfInBounds_toArray, List.set_cons_zero, List.set_cons_succ]
      refine anyL_take (i := 7) (v := ?vp6) rfl (by kernel_rfl) (by kernel_rfl) (by kernel_rfl) (by kernel_rfl) (fun _ _ _ h => h) (Or.inl ⟨by rfl, ?hp6⟩) (trivial) ?_
      case hp6 => (intro w hSw; (try dsimp only at hSw); go_simp) <;> with_reducible rfl
      simp only [Act.put, List.getElem_toArray, List.getElem_cons_zero, List.getElem_cons_succ, List.setIfInBounds_toArray, List.set_cons_zero, List.set_cons_succ]
      refine anyL_take (i := 9) (v := ?vp7) rfl (by kernel_rfl) (by kernel_rfl) (by kernel_rfl) (by kernel_rfl) (fun _ _ _ h => h) (Or.inl ⟨by rfl, ?hp7⟩) (trivial) ?_
      case hp7 => (intro w hSw; (try dsimp only at hSw); go_simp) <;> with_reducible rfl
      simp only [Act.put, List.getElem_toArray, List.getElem_cons_zero, List.getElem_cons_succ, List.setIfInBounds_toArray, List.set_cons_zero, List.set_cons_succ]
      refine anyL_take (i := 10) (v := ?vp8) rfl (by kernel_rfl) (by kernel_rfl) (by kernel_rfl) (by kernel_rfl) (fun _ _ _ h => h) (Or.inl ⟨by rfl, ?hp8⟩) (trivial) ?_
      case hp8 => (intro w hSw; (try dsimp only at hSw); go_simp) <;> with_reducible rfl
      simp only [Act.put, List.getElem_toArray, List.getElem_cons_zero, List.getElem_cons_succ, List.setIfInBounds_toArray, List.set_cons_zero, List.set_cons_succ]
      refine anyL_take (i := 11) (v := ?vp9) rfl (by kernel_rfl) (by kernel_rfl) (by kernel_rfl) (by kernel_rfl) (fun _ _ _ h => h) (Or.inl ⟨by rfl, ?hp9⟩) (trivial) ?_
      case hp9 => (intro w hSw; (try dsimp only at hSw); go_simp) <;> with_reducible rfl
      simp only [Act.put, List.getElem_toArray, List.getElem_cons_zero, List.getElem_cons_succ, List.setIfInBounds_toArray, List.set_cons_zero, List.set_cons_succ]
      refine anyL_take (i := 12) (v := ?vp10) rfl (by kernel_rfl) (by kernel_rfl) (by kernel_rfl) (by kernel_rfl) (fun _ _ _ h => h) (Or.inl ⟨by rfl, ?hp10⟩) (trivial) ?_
      case hp10 => (intro w hSw; (try dsimp only at hSw); go_simp) <;> with_reducible rfl
      simp only [Act.put, List.getElem_toArray, List.getElem_cons_zero, List.getElem_cons_succ, List.setIfInBounds_toArray, List.set_cons_zero, List.set_cons_succ]
      refine anyL_take (i := 14) (v := ?vp11) rfl (by kernel_rfl) (by kernel_rfl) (by kernel_rfl) (by kernel_rfl) (fun _ _ _ h => h) (Or.inl ⟨by rfl, ?hp11⟩) (trivial) ?_
      case hp11 => (intro w hSw; (try dsimp only at hSw); go_simp) <;> with_reducible rfl
      simp only [Act.put, List.getElem_toArray, List.getElem_cons_zero, List.getElem_cons_succ, List.setIfInBounds_toArray, List.set_cons_zero, List.set_cons_succ]
      refine anyL_ready (rs := [4]) (by kernel_rfl) (by simp) ?_
      refine AllL.cons rfl (fun K hK => ?_) AllL.nil
      go_simp
      refine (unhide S1 2 (Or.inr (Or.inl rfl)) _ b3).mono ?_
      rintro y v1 ⟨rfl, bx⟩
      have bb1 := b3.trans (bx.mono b3.size)
      have kk1 := kS3.below bx kS3.lt
      refine unhide hK _ _ (fun _ => trivial) ?_
      clear hK K bx b3 kS3
      refine anyL_ready (rs := [8]) (by kernel_rfl) (by simp) ?_
      refine AllL.cons rfl (fun K hK => ?_) AllL.nil
      go_simp
      refine (unhide S1 3 (Or.inr (Or.inr rfl)) _ bb1).mono ?_
      rintro y v2 ⟨rfl, bx⟩
      have bb2 := bb1.trans (bx.mono bb1.size)
      have kk2 := kk1.below bx kk1.lt
      refine unhide hK _ _ (fun _ => trivial) ?_
      clear hK K bx bb1 kk1
      refine anyL_ready (rs := [13]) (by kernel_rfl) (by simp) ?_
      refine AllL.cons rfl (fun K hK => ?_) AllL.nil
      go_simp
      refine (unhide HC 2 (Or.inr (Or.inl rfl)) _ bb2).mono ?_
      rintro y v3 ⟨rfl, bx⟩
      have bb3 := bb2.trans (bx.mono bb2.size)
      have kk3 := kk2.below bx kk2.lt
      refine unhide hK _ _ (fun _ => trivial) ?_
      clear hK K bx bb2 kk2
      refine anyL_ready (rs := [15]) (by kernel_rfl) (by simp) ?_
      refine AllL.cons rfl (fun K hK => ?_) AllL.nil
      go_simp
      refine (unhide HC 3 (Or.inr (Or.inr rfl)) _ bb3).mono ?_
      rintro y v4 ⟨rfl, bx⟩
      have bb4 := bb3.trans (bx.mono bb3.size)
      have kk4 := kk3.below bx kk3.lt
      refine unhide hK _ _ (fun _ => trivial) ?_
      clear hK K bx bb3 kk3
      have c10 := cells7 kk4 0 (by decide)
      have f10 := kk4.frozen 0
      have c11 := cells7 kk4 1 (by decide)
      have f11 := kk4.frozen 1
      have c12 := cells7 kk4 2 (by decide)
      have f12 := kk4.frozen 2
      have c13 := cells7 kk4 3 (by decide)
      have f13 := kk4.frozen 3
      have c14 := cells7 kk4 4 (by decide)
      have f14 := kk4.frozen 4
      have c15 := cells7 kk4 5 (by decide)
      have f15 := kk4.frozen 5
      have c16 := cells7 kk4 6 (by decide)
      have f16 := kk4.frozen 6
      refine anyL_take (i := 16) (v := ?vp12) rfl (by kernel_rfl) (by kernel_rfl) (by kernel_rfl) (by kernel_rfl) (fun _ _ _ h => h) (Or.inl ⟨by rfl, ?hp12⟩) (trivial) ?_
      case hp12 => (intro w hSw; (try dsimp only at hSw); go_simp) <;> with_reducible rfl
      simp only [Act.put, List.getElem_toArray, List.getElem_cons_zero, List.getElem_cons_succ, List.setIfInBounds_toArray, List.set_cons_zero, List.set_cons_succ]
      refine anyL_ready (rs := [17]) (by kernel_rfl) (by simp) ?_
      refine AllL.cons rfl (fun K hK => ?_) AllL.nil
      go_simp
      refine unhide hK _ _ (fun _ => trivial) ?_
      clear hK K
      obtain ⟨s1, s2⟩ := sets7 v4 _ (.int .i64 (p : Int)) (.int .i64 (szE 2 (l.take p) : Int)) (.int .i64 (szE 3 (l.take p) : Int)) (.int .i64 (kk : Int)) (.int .i64 ((0 : Nat) : Int)) (.int .i64 (szE 2 (cutL l p p) : Int)) (.int .i64 (szE 3 (cutL l p p) : Int)) kk4
      have bz := bb4.trans s2
      clear c10 f10 c11 f11 c12 f12 c13 f13 c14 f14 c15 f15 c16 f16
      generalize ((((((v4.setCell ⟨w.heap.size, 0, none⟩ (.int .i64 (p : Int))).setCell ⟨w.heap.size, 1, none⟩ (.int .i64 (szE 2 (l.take p) : Int))).setCell ⟨w.heap.size, 2, none⟩ (.int .i64 (szE 3 (l.take p) : Int))).setCell ⟨w.heap.size, 3, none⟩ (.int .i64 (kk : Int))).setCell ⟨w.heap.size, 4, none⟩ (.int .i64 ((0 : Nat) : Int))).setCell ⟨w.heap.size, 5, none⟩ (.int .i64 (szE 2 (cutL l p p) : Int))).setCell ⟨w.heap.size, 6, none⟩ (.int .i64 (szE 3 (cutL l p p) : Int)) = wZ at *
      refine anyL_take (i := 18) (v := ?vp13) rfl (by kernel_rfl) (by kernel_rfl) (by kernel_rfl) (by kernel_rfl) (fun _ _ _ h => h) (Or.inl ⟨by rfl, ?hp13⟩) (trivial) ?_
      case hp13 => (intro w hSw; (try dsimp only at hSw); go_simp) <;> with_reducible rfl
      simp only [Act.put, List.getElem_toArray, List.getElem_cons_zero, List.getElem_cons_succ, List.setIfInBounds_toArray, List.set_cons_zero, List.set_cons_succ]
      refine anyL_done (by kernel_rfl) ?_ _
      go_wp2_with fail
      refine bodyPost_ret (resWR _ rfl rfl s1) rfl ?_
      rw [unhide HV]
      rw [Nat.sub_self]
      exact ⟨rfl, bz⟩
    · have HC := hide (by have := unhide S2; rw [if_neg hcx] at this; exact this)
      clear S2
      go_wp2_with fail
      have b3 : Below w.heap.size w w2.drew := b2.trans (ch_drew (N := w.heap.size) (n := 0) w2).1
      have kS3 : Cls w2.drew _ _ wh0 := kS2
      clear b2 kS2
      refine regionL (S := fun _ => True) (fun _ => false) (by kernel_rfl) ?_
      generalize w2.drew = v0 at *
      refine anyL_take (i := 0) (v := ?vn14) rfl (by kernel_rfl) (by kernel_rfl) (by kernel_rfl) (by kernel_rfl) (fun _ _ _ h => h) (Or.inl ⟨by rfl, ?hn14⟩) (trivial) ?_
      case hn14 => (intro w hSw; (try dsimp only at hSw); go_simp) <;> with_reducible rfl
      simp only [Act.put, List.getElem_toArray, List.getElem_cons_zero, List.setIfInBounds_toArray, List.set_cons_zero, List.set_cons_succ]
      refine anyL_take (i := 1) (v := ?vn15) rfl (by kernel_rfl) (by kernel_rfl) (by kernel_rfl) (by kernel_rfl) (fun _ _ _ h => h) (Or.inl ⟨by rfl, ?hn15⟩) (trivial) ?_
      case hn15 => (intro w hSw; (try dsimp only at hSw); go_simp) <;> with_reducible rfl
      simp only [Act.put, List.getElem_toArray, List.getElem_cons_zero, List.getElem_cons_succ, List.setIfInBounds_toArray, List.set_cons_zero, List.set_cons_succ]
      refine anyL_take (i := 2) (v := ?vn16) rfl (by kernel_rfl) (by kernel_rfl) (by kernel_rfl) (by kernel_rfl) (fun _ _ _ h => h) (Or.inl ⟨by rfl, ?hn16⟩) (trivial) ?_
      case hn16 => (intro w hSw; (try dsimp only at hSw); go_simp) <;> with_reducible rfl
      simp only [Act.put, List.getElem_toArray, List.getElem_cons_zero, List.getElem_cons_succ, List.setIfInBounds_toArray, List.set_cons_zero, List.set_cons_succ]
      refine anyL_take (i := 3) (v := ?vn17) rfl (by kernel_rfl) (by kernel_rfl) (by kernel_rfl) (by kernel_rfl) (fun _ _ _ h => h) (Or.inl ⟨by rfl, ?hn17⟩) (trivial) ?_
      case hn17 => (intro w hSw; (try dsimp only at hSw); go_simp) <;> with_reducible rfl
      simp only [Act.put, List.getElem_toArray, List.getElem_cons_zero, List.getElem_cons_succ, List.setIfInBounds_toArray, List.set_cons_zero, List.set_cons_succ]
      refine anyL_take (i := 5) (v := ?vn18) rfl (by kernel_rfl) (by kernel_rfl) (by kernel_rfl) (by kernel_rfl) (fun _ _ _ h => h) (Or.inl ⟨by rfl, ?hn18⟩) (trivial) ?_
      case hn18 => (intro w hSw; (try dsimp only at hSw); go_simp) <;> with_reducible rfl
      simp only [Act.put, List.getElem_toArray, List.getElem_cons_zero, List.getElem_cons_succ, List.setIfInBounds_toArray, List.set_cons_zero, List.set_cons_succ]
      refine anyL_take (i := 6) (v := ?vn19) rfl (by kernel_rfl) (by kernel_rfl) (by kernel_rfl) (by kernel_rfl) (fun _ _ _ h => h) (Or.inl ⟨by rfl, ?hn19⟩) (trivial) ?_
      case hn19 => (intro w hSw; (try dsimp only at hSw); go_simp) <;> with_reducible rfl
      simp only [Act.put, List.getElem_toArray, List.getElem_cons_zero, List.getElem_cons_succ, List.setIfInBounds_toArray, List.set_cons_zero, List.set_cons_succ]
      refine anyL_take (i := 7) (v := ?vn20) rfl (by kernel_rfl) (by kernel_rfl) (by kernel_rfl) (by kernel_rfl) (fun _ _ _ h => h) (Or.inl ⟨by rfl, ?hn20⟩) (trivial) ?_
      case hn20 => (intro w hSw; (try dsimp only at hSw); go_simp) <;> with_reducible rfl
      simp only [Act.put, List.getElem_toArray, List.getElem_cons_zero, List.getElem_cons_succ, List.setIfInBounds_toArray, List.set_cons_zero, List.set_cons_succ]
      refine anyL_take (i := 9) (v := ?vn21) rfl (by kernel_rfl) (by kernel_rfl) (by kernel_rfl) (by kernel_rfl) (fun _ _ _ h => h) (Or.inl ⟨by rfl, ?hn21⟩) (trivial) ?_
      case hn21 => (intro w hSw; (try dsimp only at hSw); go_simp) <;> with_reducible rfl
      simp only [Act.put, List.getElem_toArray, List.getElem_cons_zero, List.getElem_cons_succ, List.setIfInBounds_toArray, List.set_cons_zero, List.set_cons_succ]
      refine anyL_take (i := 10) (v := ?vn22) rfl (by kernel_rfl) (by kernel_rfl) (by kernel_rfl) (by kernel_rfl) (fun _ _ _ h => h) (Or.inl ⟨by rfl, ?hn22⟩) (trivial) ?_
      case hn22 => (intro w hSw; (try dsimp only at hSw); go_simp) <;> with_reducible rfl
      simp only [Act.put, List.getElem_toArray, List.getElem_cons_zero, List.getElem_cons_succ, List.setIfInBounds_toArray, List.set_cons_zero, List.set_cons_succ]
      refine anyL_take (i := 11) (v := ?vn23) rfl (by kernel_rfl) (by kernel_rfl) (by kernel_rfl) (by kernel_rfl) (fun _ _ _ h => h) (Or.inl ⟨by rfl, ?hn23⟩) (trivial) ?_
      case hn23 => (intro w hSw; (try dsimp only at hSw); go_simp) <;> with_reducible rfl
      simp only [Act.put, List.getElem_toArray, List.getElem_cons_zero, List.getElem_cons_succ, List.setIfInBounds_toArray, List.set_cons_zero, List.set_cons_succ]
      refine anyL_take (i := 12) (v := ?vn24) rfl (by kernel_rfl) (by kernel_rfl) (by kernel_rfl) (by kernel_rfl) (fun _ _ _ h => h) (Or.inl ⟨by rfl, ?hn24⟩) (trivial) ?_
      case hn24 => (intro w hSw; (try dsimp only at hSw); go_simp) <;> with_reducible rfl
      simp only [Act.put, List.getElem_toArray, List.getElem_cons_zero, List.getElem_cons_succ, List.setIfInBounds_toArray, List.set_cons_zero, List.set_cons_succ]
      refine anyL_take (i := 14) (v := ?vn25) rfl (by kernel_rfl) (by kernel_rfl) (by kernel_rfl) (by kernel_rfl) (fun _ _ _ h => h) (Or.inl ⟨by rfl, ?hn25⟩) (trivial) ?_
      case hn25 => (intro w hSw; (try dsimp only at hSw); go_simp) <;> with_reducible rfl
      simp only [Act.put, List.getElem_toArray, List.getElem_cons_zero, List.getElem_cons_succ, List.setIfInBounds_toArray, List.set_cons_zero, List.set_cons_succ]
      refine anyL_ready (rs := [4]) (by kernel_rfl) (by simp) ?_
      refine AllL.cons rfl (fun K hK => ?_) AllL.nil
      go_simp
      refine (unhide S1 2 (Or.inr (Or.inl rfl)) _ b3).mono ?_
      rintro y v1 ⟨rfl, bx⟩
      have bb1 := b3.trans (bx.mono b3.size)
      have kk1 := kS3.below bx kS3.lt
      refine unhide hK _ _ (fun _ => trivial) ?_
      clear hK K bx b3 kS3
      refine anyL_ready (rs := [8]) (by kernel_rfl) (by simp) ?_
      refine AllL.cons rfl (fun K hK => ?_) AllL.nil
      go_simp
      refine (unhide S1 3 (Or.inr (Or.inr rfl)) _ bb1).mono ?_
      rintro y v2 ⟨rfl, bx⟩
      have bb2 := bb1.trans (bx.mono bb1.size)
      have kk2 := kk1.below bx kk1.lt
      refine unhide hK _ _ (fun _ => trivial) ?_
      clear hK K bx bb1 kk1
      refine anyL_ready (rs := [13]) (by kernel_rfl) (by simp) ?_
      refine AllL.cons rfl (fun K hK => ?_) AllL.nil
      go_simp
      refine (unhide HC 2 (Or.inr (Or.inl rfl)) _ bb2).mono ?_
      rintro y v3 ⟨rfl, bx⟩
      have bb3 := bb2.trans (bx.mono bb2.size)
      have kk3 := kk2.below bx kk2.lt
      refine unhide hK _ _ (fun _ => trivial) ?_
      clear hK K bx bb2 kk2
      refine anyL_ready (rs := [15]) (by kernel_rfl) (by simp) ?_
      refine AllL.cons rfl (fun K hK => ?_) AllL.nil
      go_simp
      refine (unhide HC 3 (Or.inr (Or.inr rfl)) _ bb3).mono ?_
      rintro y v4 ⟨rfl, bx⟩
      have bb4 := bb3.trans (bx.mono bb3.size)
      have kk4 := kk3.below bx kk3.lt
      refine unhide hK _ _ (fun _ => trivial) ?_
      clear hK K bx bb3 kk3
      have c10 := cells7 kk4 0 (by decide)
      have f10 := kk4.frozen 0
      have c11 := cells7 kk4 1 (by decide)
      have f11 := kk4.frozen 1
      have c12 := cells7 kk4 2 (by decide)
      have f12 := kk4.frozen 2
      have c13 := cells7 kk4 3 (by decide)
      have f13 := kk4.frozen 3
      have c14 := cells7 kk4 4 (by decide)
      have f14 := kk4.frozen 4
      have c15 := cells7 kk4 5 (by decide)
      have f15 := kk4.frozen 5
      have c16 := cells7 kk4 6 (by decide)
      have f16 := kk4.frozen 6
      refine anyL_take (i := 16) (v := ?vn26) rfl (by kernel_rfl) (by kernel_rfl) (by kernel_rfl) (by kernel_rfl) (fun _ _ _ h => h) (Or.inl ⟨by rfl, ?hn26⟩) (trivial) ?_
      case hn26 => (intro w hSw; (try dsimp only at hSw); go_simp) <;> with_reducible rfl
      simp only [Act.put, List.getElem_toArray, List.getElem_cons_zero, List.getElem_cons_succ, List.setIfInBounds_toArray, List.set_cons_zero, List.set_cons_succ]
      refine anyL_ready (rs := [17]) (by kernel_rfl) (by simp) ?_
      refine AllL.cons rfl (fun K hK => ?_) AllL.nil
      go_simp
      refine unhide hK _ _ (fun _ => trivial) ?_
      clear hK K
      obtain ⟨s1, s2⟩ := sets7 v4 _ (.int .i64 (p : Int)) (.int .i64 (szE 2 (l.take p) : Int)) (.int .i64 (szE 3 (l.take p) : Int)) (.int .i64 (kk : Int)) (.int .i64 ((p - st : Nat) : Int)) (.int .i64 (szE 2 (cutL l st p) : Int)) (.int .i64 (szE 3 (cutL l st p) : Int)) kk4
      have bz := bb4.trans s2
      clear c10 f10 c11 f11 c12 f12 c13 f13 c14 f14 c15 f15 c16 f16
      generalize ((((((v4.setCell ⟨w.heap.size, 0, none⟩ (.int .i64 (p : Int))).setCell ⟨w.heap.size, 1, none⟩ (.int .i64 (szE 2 (l.take p) : Int))).setCell ⟨w.heap.size, 2, none⟩ (.int .i64 (szE 3 (l.take p) : Int))).setCell ⟨w.heap.size, 3, none⟩ (.int .i64 (kk : Int))).setCell ⟨w.heap.size, 4, none⟩ (.int .i64 ((p - st : Nat) : Int))).setCell ⟨w.heap.size, 5, none⟩ (.int .i64 (szE 2 (cutL l st p) : Int))).setCell ⟨w.heap.size, 6, none⟩ (.int .i64 (szE 3 (cutL l st p) : Int)) = wZ at *
      refine anyL_take (i := 18) (v := ?vn27) rfl (by kernel_rfl) (by kernel_rfl) (by kernel_rfl) (by kernel_rfl) (fun _ _ _ h => h) (Or.inl ⟨by rfl, ?hn27⟩) (trivial) ?_
      case hn27 => (intro w hSw; (try dsimp only at hSw); go_simp) <;> with_reducible rfl
      simp only [Act.put, List.getElem_toArray, List.getElem_cons_zero, List.getElem_cons_succ, List.setIfInBounds_toArray, List.set_cons_zero, List.set_cons_succ]
      refine anyL_done (by kernel_rfl) ?_ _
      go_wp2_with fail
      refine bodyPost_ret (resWR _ rfl rfl s1) rfl ?_
      rw [unhide HV]
      exact ⟨rfl, bz⟩
end
section
attribute [local go_sem] Oper.semAt_some
theorem cells2w {Y : World} {N : Nat} {t : TypeId} {x0 x1 : Value} (h : Cls Y N t #[x0, x1]) : Y.cell? ⟨N, 0, none⟩ = some x0 ∧ Y.cell? ⟨N, 1, none⟩ = some x1 := ⟨(h.cell 0).trans rfl, (h.cell 1).trans rfl⟩
end
section
def edN (l : List Int) : List Nat := spots l 0 ++ [l.length]
theorem edN_len (l : List Int) : (edN l).length = (spots l 0).length + 1 := by simp [edN]
theorem edN_at {l : List Int} (hl : ∀ x ∈ l, 0 ≤ x ∧ x ≤ 255) {k : Nat} (h : k < (edN l).length) : (edN l).getD k 0 = ((EE l).getD k e0).1 := by
  rw [edN_len] at h
  unfold EE
  rw [edL_getD _ _ _ (by omega)]
  by_cases hk : k < (spots l 0).length
  · have hg : (edN l).getD k 0 = (spots l 0)[k] := by unfold edN; rw [List.getD_eq_getElem?_getD, List.getElem?_append_left hk, List.getElem?_eq_getElem hk]; rfl
    have hpre : (spots l 0).take k ++ [(spots l 0)[k]] <+: spots l 0 := ⟨(spots l 0).drop (k + 1), by rw [List.append_assoc, List.singleton_append, ← List.drop_eq_getElem_cons hk, List.take_append_drop]⟩
    rw [hg, (st_next hl hpre).1]
  · obtain rfl : k = (spots l 0).length := by omega
    rw [List.take_length, st_full hl]
    unfold edN
    rw [List.getD_eq_getElem?_getD]
    simp
structure LnX (l : List Int) (st la : Nat) : Prop where
  hl : ∀ x ∈ l, 0 ≤ x ∧ x ≤ 255
  es : inside l st = false
  el : inside l la = false
  le : st ≤ la
  n : la ≤ l.length
def ccE (l : List Int) (st : Nat) (r : Int) (j : Nat) : Int := (szE r (cutL l st ((edN l).getD j 0)) : Int)
def inR (l : List Int) (st la j : Nat) : Prop := st ≤ (edN l).getD j 0 ∧ (edN l).getD j 0 ≤ la
theorem edN_edge {l : List Int} (hl : ∀ x ∈ l, 0 ≤ x ∧ x ≤ 255) {j : Nat} (hj : j < (edN l).length) : inside l ((edN l).getD j 0) = false := by
  rw [edN_at hl hj]
  exact EE_inside hl (by rw [EE_len, ← edN_len]; exact hj)
theorem edN_inc {l : List Int} (hl : ∀ x ∈ l, 0 ≤ x ∧ x ≤ 255) {i j : Nat} (h : i < j) (hj : j < (edN l).length) : (edN l).getD i 0 < (edN l).getD j 0 := by
  rw [edN_at hl hj, edN_at hl (by omega)]
  exact (inc_EE hl 1).2.2 i j h (by rw [EE_len, ← edN_len]; exact hj)
theorem edN_of {l : List Int} (hl : ∀ x ∈ l, 0 ≤ x ∧ x ≤ 255) {p : Nat} (hp : p ≤ l.length) (he : inside l p = false) : ∃ j, j < (edN l).length ∧ (edN l).getD j 0 = p := by
  obtain ⟨i, hi, h⟩ := edge_ix hl hp he
  have : i < (edN l).length := by rw [edN_len, ← EE_len]; exact hi
  exact ⟨i, this, by rw [edN_at hl this, h]⟩
theorem cut_in {l : List Int} {st la : Nat} (h : LnX l st la) : ∀ x ∈ cutL l st la, 0 ≤ x ∧ x ≤ 255 := fun x hx => h.hl x (List.mem_of_mem_take (List.mem_of_mem_drop hx))
theorem cut_len {l : List Int} {st la : Nat} (h : LnX l st la) : (cutL l st la).length = la - st := by have := h.n; unfold cutL; simp; omega
theorem cut_take {l : List Int} {st la : Nat} {p : Nat} (h1 : st ≤ p) (h2 : p ≤ la) : (cutL l st la).take (p - st) = cutL l st p := by
  unfold cutL
  rw [List.take_drop, List.take_take, show min (st + (p - st)) la = p by omega]
theorem ed_fwd {l : List Int} {st la : Nat} (h : LnX l st la) {r : Int} (hr : isRu r = true) {j : Nat} (hj : j < (edN l).length) (hi : inR l st la j) :
    ∃ i, i < (EE (cutL l st la)).length ∧ ((EE (cutL l st la)).getD i e0).1 + st = (edN l).getD j 0 ∧ (byE r ((EE (cutL l st la)).getD i e0) : Int) = ccE l st r j := by
  have h3 : inside (cutL l st la) ((edN l).getD j 0 - st) = false := by
    unfold cutL
    rw [inside_cut h.es h.el h.le (by have := hi.1; have := hi.2; omega), show st + ((edN l).getD j 0 - st) = (edN l).getD j 0 by have := hi.1; omega]
    exact edN_edge h.hl hj
  obtain ⟨i, hi2, h4⟩ := edge_ix (cut_in h) (p := (edN l).getD j 0 - st) (by rw [cut_len h]; have := hi.2; omega) h3
  refine ⟨i, hi2, by have := hi.1; omega, ?_⟩
  rw [← sz_take (cut_in h) hr hi2, h4, cut_take hi.1 hi.2]
  rfl
theorem ed_bwd {l : List Int} {st la : Nat} (h : LnX l st la) {r : Int} (hr : isRu r = true) {i : Nat} (hi : i < (EE (cutL l st la)).length) :
    ∃ j, j < (edN l).length ∧ inR l st la j ∧ ((EE (cutL l st la)).getD i e0).1 + st = (edN l).getD j 0 ∧ (byE r ((EE (cutL l st la)).getD i e0) : Int) = ccE l st r j := by
  have h1 := EE_inside (cut_in h) hi
  have h2 : ((EE (cutL l st la)).getD i e0).1 ≤ la - st := by
    have h5 := (inc_EE (cut_in h) 1).le (i := i) (j := (EE (cutL l st la)).length - 1) (by omega) (by omega)
    rw [EE_last] at h5
    have h6 : (stE (cutL l st la) (spots (cutL l st la) 0)).1 = (cutL l st la).length := st_full (cut_in h)
    have h7 : ∀ e : Ed, byE 1 e = e.1 := fun e => rfl
    rw [h7, h7, h6, cut_len h] at h5
    exact h5
  have hle := h.le
  have h3 : inside l (st + ((EE (cutL l st la)).getD i e0).1) = false := by
    rw [← inside_cut h.es h.el h.le (by omega)]
    exact h1
  obtain ⟨j, hj, h4⟩ := edN_of h.hl (p := st + ((EE (cutL l st la)).getD i e0).1) (by have := h.n; omega) h3
  have hin : inR l st la j := ⟨by rw [h4]; omega, by rw [h4]; omega⟩
  refine ⟨j, hj, hin, by omega, ?_⟩
  rw [← sz_take (cut_in h) hr hi]
  unfold ccE
  rw [h4, ← cut_take (l := l) (st := st) (la := la) (p := st + ((EE (cutL l st la)).getD i e0).1) (by omega) (by omega), show st + ((EE (cutL l st la)).getD i e0).1 - st = ((EE (cutL l st la)).getD i e0).1 by omega]
structure AtQ (l : List Int) (st la : Nat) (r col : Int) (k : Nat) (bl ab : Int) : Prop where
  a : ∀ j, j < k → inR l st la j → ccE l st r j ≠ col
  b : (bl = -1 ∧ ∀ j, j < k → inR l st la j → ¬ ccE l st r j < col) ∨ ∃ j, j < k ∧ inR l st la j ∧ bl = ((edN l).getD j 0 : Nat) ∧ ccE l st r j < col ∧ ∀ i, j < i → i < k → inR l st la i → ¬ ccE l st r i < col
  c : (ab = -1 ∧ ∀ j, j < k → inR l st la j → ¬ col < ccE l st r j) ∨ ∃ j, j < k ∧ inR l st la j ∧ ab = ((edN l).getD j 0 : Nat) ∧ col < ccE l st r j ∧ ∀ i, i < j → inR l st la i → ¬ col < ccE l st r i
theorem AtQ.zero (l : List Int) (st la : Nat) (r col : Int) : AtQ l st la r col 0 (-1) (-1) := ⟨fun j h => by omega, Or.inl ⟨rfl, fun j h => by omega⟩, Or.inl ⟨rfl, fun j h => by omega⟩⟩
theorem lt_succ {k : Nat} {P : Nat → Prop} (h : ∀ j, j < k → P j) (hk : P k) : ∀ j, j < k + 1 → P j := fun j hj => by
  rcases Nat.lt_or_ge j k with h1 | h1
  · exact h j h1
  · obtain rfl : j = k := by omega
    exact hk
theorem AtQ.skip {l : List Int} {st la k : Nat} {r col bl ab : Int} (h : AtQ l st la r col k bl ab) (hk : ¬ inR l st la k) : AtQ l st la r col (k + 1) bl ab := by
  refine ⟨lt_succ h.a (fun h1 => absurd h1 hk), ?_, ?_⟩
  · rcases h.b with ⟨e, h1⟩ | ⟨j, h1, h2, h3, h4, h5⟩
    · exact Or.inl ⟨e, lt_succ h1 (fun h2 => absurd h2 hk)⟩
    · exact Or.inr ⟨j, by omega, h2, h3, h4, fun i h6 h7 h8 => by
        rcases Nat.lt_or_ge i k with h9 | h9
        · exact h5 i h6 h9 h8
        · obtain rfl : i = k := by omega
          exact absurd h8 hk⟩
  · rcases h.c with ⟨e, h1⟩ | ⟨j, h1, h2, h3, h4, h5⟩
    · exact Or.inl ⟨e, lt_succ h1 (fun h2 => absurd h2 hk)⟩
    · exact Or.inr ⟨j, by omega, h2, h3, h4, h5⟩
theorem AtQ.low {l : List Int} {st la k : Nat} {r col bl ab : Int} (h : AtQ l st la r col k bl ab) (hk : inR l st la k) (hc : ccE l st r k < col) : AtQ l st la r col (k + 1) ((edN l).getD k 0 : Nat) ab := by
  refine ⟨lt_succ h.a (fun _ => by omega), Or.inr ⟨k, by omega, hk, rfl, hc, fun i h1 h2 => by omega⟩, ?_⟩
  rcases h.c with ⟨e, h1⟩ | ⟨j, h1, h2, h3, h4, h5⟩
  · exact Or.inl ⟨e, lt_succ h1 (fun _ => by omega)⟩
  · exact Or.inr ⟨j, by omega, h2, h3, h4, h5⟩
theorem AtQ.high {l : List Int} {st la k : Nat} {r col bl ab : Int} (h : AtQ l st la r col k bl ab) (hk : inR l st la k) (hc : col < ccE l st r k) : AtQ l st la r col (k + 1) bl (if ab < 0 then ((edN l).getD k 0 : Nat) else ab) := by
  refine ⟨lt_succ h.a (fun _ => by omega), ?_, ?_⟩
  · rcases h.b with ⟨e, h1⟩ | ⟨j, h1, h2, h3, h4, h5⟩
    · exact Or.inl ⟨e, lt_succ h1 (fun _ => by omega)⟩
    · exact Or.inr ⟨j, by omega, h2, h3, h4, fun i h6 h7 h8 => by
        rcases Nat.lt_or_ge i k with h9 | h9
        · exact h5 i h6 h9 h8
        · obtain rfl : i = k := by omega
          omega⟩
  · rcases h.c with ⟨e, h1⟩ | ⟨j, h1, h2, h3, h4, h5⟩
    · rw [if_pos (by omega)]
      exact Or.inr ⟨k, by omega, hk, rfl, hc, fun i h2 h3 => h1 i h2 h3⟩
    · rw [if_neg (by omega)]
      exact Or.inr ⟨j, by omega, h2, h3, h4, h5⟩
theorem ed_inj {l : List Int} (hl : ∀ x ∈ l, 0 ≤ x ∧ x ≤ 255) {i j : Nat} (hi : i < (edN l).length) (hj : j < (edN l).length) (h : (edN l).getD i 0 < (edN l).getD j 0) : i < j := by
  rcases Nat.lt_trichotomy i j with h1 | h1 | h1
  · exact h1
  · subst h1; omega
  · have := edN_inc hl h1 hi; omega
theorem at_none {l : List Int} {st la : Nat} (h : LnX l st la) {r m col bl : Int} (hr : isRu r = true) (hm : isRu m = true) (hI : AtQ l st la r col (edN l).length bl (-1)) : toR r col 1 m (EE (cutL l st la)) = 2 := by
  rw [(to_ru hr rfl hm col _).1]
  have hall : ∀ i, i < (EE (cutL l st la)).length → (byE r ((EE (cutL l st la)).getD i e0) : Int) < col := fun i hi => by
    obtain ⟨j, hj, h1, _, h2⟩ := ed_bwd h hr hi
    rw [h2]
    have a := hI.a j hj h1
    rcases hI.c with ⟨_, c⟩ | ⟨j', _, _, h3, _⟩
    · have := c j hj h1
      omega
    · exfalso
      omega
  have hx : ixE r col (EE (cutL l st la)) = (EE (cutL l st la)).length := ix_is (Nat.le_refl _) hall (fun h => by omega)
  unfold fdR isPl
  rw [hx]
  simp
theorem at_some {l : List Int} {st la : Nat} (h : LnX l st la) {r m col bl ab : Int} (hr : isRu r = true) (hm : isRu m = true) (h0 : 0 ≤ col) (hab : ¬ ab < 0) (hI : AtQ l st la r col (edN l).length bl ab) :
    toR r col 1 m (EE (cutL l st la)) = (if m = 3 then 4 else 0) ∧ (m = 1 → bl = (st : Int) + (toP r col 1 m (EE (cutL l st la)) : Nat)) ∧ (m = 2 → ab = (st : Int) + (toP r col 1 m (EE (cutL l st la)) : Nat)) := by
  have hF := inc_EE (cut_in h) r
  have hF1 := inc_EE (cut_in h) 1
  rcases hI.c with ⟨e, _⟩ | ⟨j, hj, hin, he, hlt, hfst⟩
  · omega
  obtain ⟨i, hi, p1, p2⟩ := ed_fwd h hr hj hin
  have hlow : ∀ i', i' < i → (byE r ((EE (cutL l st la)).getD i' e0) : Int) < col := fun i' hi' => by
    obtain ⟨j', hj', q1, q2, q3⟩ := ed_bwd h hr (i := i') (by omega)
    have h5 : ((EE (cutL l st la)).getD i' e0).1 < ((EE (cutL l st la)).getD i e0).1 := hF1.2.2 i' i hi' hi
    have h6 := hfst j' (ed_inj h.hl hj' hj (by omega)) q1
    have h7 := hI.a j' hj' q1
    rw [q3]
    omega
  have hx : ixE r col (EE (cutL l st la)) = i := ix_is (by omega) hlow (fun _ => by rw [p2]; omega)
  have hup : upE r col (EE (cutL l st la)) = (EE (cutL l st la)).getD i e0 := by unfold upE; rw [hx]
  have hne : ¬ (byE r (upE r col (EE (cutL l st la))) : Int) = col := by rw [hup, p2]; omega
  have hpl : isPl r col (EE (cutL l st la)) = true := by unfold isPl; rw [hx]; exact decide_eq_true ⟨h0, hi⟩
  have hfd : fdR r col m (EE (cutL l st la)) = if m = 3 then 4 else 0 := by
    unfold fdR
    rw [if_pos hpl]
    have hm' : m = 1 ∨ m = 2 ∨ m = 3 := by unfold isRu at hm; simp at hm; omega
    rcases hm' with rfl | rfl | rfl
    · rw [if_pos (Or.inr (Or.inl rfl))]; rfl
    · rw [if_pos (Or.inr (Or.inr rfl))]; rfl
    · rw [if_neg (fun h => by rcases h with h | h | h; exact hne h; all_goals omega)]; rfl
  obtain ⟨t1, t2⟩ := to_ru hr (rfl : isRu 1 = true) hm col (EE (cutL l st la))
  refine ⟨by rw [t1, hfd], fun hm1 => ?_, fun hm2 => ?_⟩
  · subst hm1
    rw [t2]
    unfold fdE
    rw [hfd, if_pos (by decide)]
    unfold selI
    rw [if_neg (by decide)]
    obtain ⟨d1, d2, d3⟩ := dn_lt hF hpl
    have hdn : dnI r col (EE (cutL l st la)) + 1 = i := by
      rcases d3 with d | d
      · unfold dnI at d
        rw [if_neg hne] at d
        rw [hx] at d
        have hi0 : 0 < i := by
          rcases Nat.eq_zero_or_pos i with h8 | h8
          · exfalso
            subst h8
            have := hF.1
            rw [this, by_e0] at p2
            omega
          · exact h8
        omega
      · rw [← hx]; exact d.1
    obtain ⟨j', hj', q1, q2, q3⟩ := ed_bwd h hr (i := dnI r col (EE (cutL l st la))) d1
    have hlo := hlow (dnI r col (EE (cutL l st la))) (by omega)
    rw [q3] at hlo
    rcases hI.b with ⟨_, b⟩ | ⟨jb, b1, b2, b3, b4, b5⟩
    · exact absurd hlo (b j' hj' q1)
    · obtain ⟨ib, c1, c2, c3⟩ := ed_fwd h hr b1 b2
      have hbi : ib < i := by
        rcases Nat.lt_or_ge ib i with h8 | h8
        · exact h8
        · have := hF.le h8 c1
          omega
      have hjj : ¬ jb < j' := fun h8 => b5 j' h8 hj' q1 hlo
      have hle2 : ((EE (cutL l st la)).getD ib e0).1 ≤ ((EE (cutL l st la)).getD (dnI r col (EE (cutL l st la))) e0).1 := hF1.le (by omega) d1
      have : (edN l).getD jb 0 = (edN l).getD j' 0 := by
        rcases Nat.lt_or_ge j' jb with h8 | h8
        · have := edN_inc h.hl h8 b1; omega
        · obtain rfl : j' = jb := by omega
          rfl
      rw [b3, this, ← q2]
      show ((((EE (cutL l st la)).getD (dnI r col (EE (cutL l st la))) e0).1 + st : Nat) : Int) = (st : Int) + (((EE (cutL l st la)).getD (dnI r col (EE (cutL l st la))) e0).1 : Nat)
      omega
  · subst hm2
    rw [t2]
    unfold fdE
    rw [hfd, if_pos (by decide)]
    unfold selI
    rw [if_pos rfl, hx, he, ← p1]
    show ((((EE (cutL l st la)).getD i e0).1 + st : Nat) : Int) = (st : Int) + (((EE (cutL l st la)).getD i e0).1 : Nat)
    omega
theorem at_eq {l : List Int} {st la : Nat} (h : LnX l st la) {r m col : Int} (hr : isRu r = true) (hm : isRu m = true) {j : Nat} (hj : j < (edN l).length) (hin : inR l st la j) (hc : ccE l st r j = col) :
    toR r col 1 m (EE (cutL l st la)) = 0 ∧ st + toP r col 1 m (EE (cutL l st la)) = (edN l).getD j 0 := by
  have h3 : inside (cutL l st la) ((edN l).getD j 0 - st) = false := by
    unfold cutL
    rw [inside_cut h.es h.el h.le (by have := hin.1; have := hin.2; omega), show st + ((edN l).getD j 0 - st) = (edN l).getD j 0 by have := hin.1; omega]
    exact edN_edge h.hl hj
  have := to_edge (cut_in h) hr hm (q := (edN l).getD j 0 - st) (by rw [cut_len h]; have := hin.2; omega) h3
  rw [cut_take hin.1 hin.2] at this
  have hcc : (szE r (cutL l st ((edN l).getD j 0)) : Int) = col := hc
  rw [hcc] at this
  exact ⟨this.1, by rw [this.2]; have := hin.1; omega⟩
end
section
attribute [local go_sem] Oper.semAt_some
theorem RLast7_at (st ct nx la : Nat) (w : World) (h1 : ct ≤ 1048576) (h2 : nx ≤ 1048576) (h3 : ct ≤ nx) (h4 : nx ≤ ct + 2) (hla : la = max ct (nx - 1)) :
    Calls Tryz.prog 62 #[.agg #[.int .i64 (st : Int), .int .i64 (ct : Int), .int .i64 (nx : Int)]] w fun y w' => y = .returned (.int .i64 (la : Int)) ∧ Below w.heap.size w w' := by
  have b0 := (Below.refl w.heap.size w).alloc (Nat.le_refl _) (.cells #[.int .i64 (st : Int), .int .i64 (ct : Int), .int .i64 (nx : Int)] 76)
  obtain ⟨c0, c1, c2⟩ := three_nwR w (.int .i64 (st : Int)) (.int .i64 (ct : Int)) (.int .i64 (nx : Int)) (t := 76)
  have hw1 : wrap64 ((nx : Int) - (ct : Int)) = ((nx - ct : Nat) : Int) := by rw [wrap_in _ (by omega) (by omega)]; omega
  have hw2 : wrap64 ((ct : Int) + 1) = ((ct + 1 : Nat) : Int) := by rw [wrap_in _ (by omega) (by omega)]; omega
  by_cases hc : nx - ct = 2
  · have hv : la = ct + 1 := by omega
    have t1 : (((nx - ct : Nat) : Int) == 2) = true := by simp; omega
    subst hv
    clear hla h1 h2 h3 h4 hc
    go_enter Tryz.func62, Tryz.ntmps62
    go_wp2_with fail
    go_ret
    exact ⟨by show Ending.returned (.int .i64 (wrap64 ((ct : Int) + 1))) = _; rw [hw2], b0⟩
  · have hv : la = ct := by omega
    have t1 : (((nx - ct : Nat) : Int) == 2) = false := by simp; omega
    subst hv
    clear hla h1 h2 h3 h4 hc
    go_enter Tryz.func62, Tryz.ntmps62
    go_wp2_with fail
    go_ret
    exact ⟨rfl, b0⟩
structure AqS (w : World) (gS gr gE : Nat) (line col : Int) (st ct nx : Nat) (E : List Nat) (X : World) : Prop where
  d : Below w.heap.size w X
  s : Cls X gS 24 #[.int .i64 line, .int .i64 col]
  r : Cls X gr 76 #[.int .i64 (st : Int), .int .i64 (ct : Int), .int .i64 (nx : Int)]
  e : LiesI X gE E
  z : gE < X.heap.size
theorem AqS.on {w : World} {gS gr gE : Nat} {line col : Int} {st ct nx : Nat} {E : List Nat} {X Y : World} (h : AqS w gS gr gE line col st ct nx E X) (hb : Below X.heap.size X Y) : AqS w gS gr gE line col st ct nx E Y :=
  ⟨h.d.trans (hb.mono h.d.size), h.s.below hb h.s.lt, h.r.below hb h.r.lt, h.e.below hb h.z, Nat.lt_of_lt_of_le h.z hb.size⟩
theorem cells3w {Y : World} {N : Nat} {t : TypeId} {x0 x1 x2 : Value} (h : Cls Y N t #[x0, x1, x2]) : Y.cell? ⟨N, 0, none⟩ = some x0 ∧ Y.cell? ⟨N, 1, none⟩ = some x1 ∧ Y.cell? ⟨N, 2, none⟩ = some x2 := ⟨(h.cell 0).trans rfl, (h.cell 1).trans rfl, (h.cell 2).trans rfl⟩
theorem ccE_at {l : List Int} {st : Nat} {r : Int} {j q : Nat} (h : (edN l).getD j 0 = q) : ccE l st r j = (szE r (cutL l st q) : Int) := by unfold ccE; rw [h]
theorem RAt7_at (a0 : Option Addr) (cap : Nat) (l : List Int) (line col r m : Int) (w : World) (hB : IsB w a0 cap l) (hl : l.length ≤ 600) :
    Calls Tryz.prog 27 #[.slice a0 l.length cap, .agg #[.int .i64 line, .int .i64 col], .int .i64 r, .int .i64 m] w fun y w' =>
      y = .returned (.tuple #[.int .i64 (atP l line col r m : Int), .int .i64 (atR l line col r m)]) ∧ Below w.heap.size w w' := by
  have kS := Cls.new w 24 #[.int .i64 line, .int .i64 col]
  have b0 := (Below.refl w.heap.size w).alloc (Nat.le_refl _) (.cells #[.int .i64 line, .int .i64 col] 24)
  by_cases hrm : (r = 1 ∨ r = 2 ∨ r = 3) ∧ (m = 1 ∨ m = 2 ∨ m = 3)
  case neg =>
    have HV : Hid (atP l line col r m = 0 ∧ atR l line col r m = 3) := hide (by
      have : (isRu r && isRu m) = false := by unfold isRu; simp; omega
      unfold atP atR
      rw [this]
      exact ⟨rfl, rfl⟩)
    have HT : Hid (decide (r < 1) = true ∨ (decide (r < 1) = false ∧ decide (r > 3) = true ∧ decide (3 < r) = true) ∨ (decide (r < 1) = false ∧ decide (r > 3) = false ∧ decide (3 < r) = false ∧ decide (m < 1) = true) ∨
        (decide (r < 1) = false ∧ decide (r > 3) = false ∧ decide (3 < r) = false ∧ decide (m < 1) = false ∧ decide (m > 3) = true ∧ decide (3 < m) = true)) := hide (by
      by_cases h1 : r < 1
      · exact Or.inl (decide_eq_true h1)
      · by_cases h2 : 3 < r
        · exact Or.inr (Or.inl ⟨decide_eq_false h1, decide_eq_true h2, decide_eq_true h2⟩)
        · by_cases h3 : m < 1
          · exact Or.inr (Or.inr (Or.inl ⟨decide_eq_false h1, decide_eq_false h2, decide_eq_false h2, decide_eq_true h3⟩))
          · exact Or.inr (Or.inr (Or.inr ⟨decide_eq_false h1, decide_eq_false h2, decide_eq_false h2, decide_eq_false h3, decide_eq_true (by omega), decide_eq_true (by omega)⟩)))
    clear hrm hB hl kS
    go_enter Tryz.func27, Tryz.ntmps27
    go_upto_region 1 with fail
    generalize w.alloc (.cells #[.int .i64 line, .int .i64 col] 24) = w0 at *
    rcases unhide HT with t1 | ⟨t1, t2, t3⟩ | ⟨t1, t2, t3, t4⟩ | ⟨t1, t2, t3, t4, t5, t6⟩
    all_goals
      go_wp2_with fail
      rw [(unhide HV).1, (unhide HV).2]
      refine bodyPost_ret (results_tmp2 rfl _ _ _) rfl ⟨rfl, b0⟩
  have t1 : decide (r < 1) = false := decide_eq_false (by omega)
  have t2 : decide (r > 3) = false := decide_eq_false (by omega)
  have t3 : decide (3 < r) = false := decide_eq_false (by omega)
  have t4 : decide (m < 1) = false := decide_eq_false (by omega)
  have t5 : decide (m > 3) = false := decide_eq_false (by omega)
  have t6 : decide (3 < m) = false := decide_eq_false (by omega)
  have hru : isRu r = true := by rcases hrm.1 with rfl | rfl | rfl <;> rfl
  have hmu : isRu m = true := by rcases hrm.2 with rfl | rfl | rfl <;> rfl
  have HRM := hide hrm
  have HUU := hide (And.intro hru hmu)
  clear hrm
  go_enter Tryz.func27, Tryz.ntmps27
  go_upto_region 1 with fail
  generalize hgS : w.heap.size = gS at kS ⊢
  have HGS := hide hgS
  clear hgS
  generalize w.alloc (.cells #[.int .i64 line, .int .i64 col] 24) = w0 at *
  have hB0 := hB.below b0 (Nat.le_refl _)
  go_wp2_with fail
  clear t1 t2 t3 t4 t5 t6
  refine (Rows_at a0 cap l w0 hB0 (by omega)).mono ?_
  rintro y w1 ⟨v, rfl, o1, x1⟩
  have hN := LN_len l
  obtain ⟨gR, cR, rfl, lR, zR⟩ := rowR o1 (LN_pos l)
  have b1 := b0.trans (x1.mono b0.size)
  have kS1 := kS.below x1 kS.lt
  clear o1 x1 kS hB0 b0
  obtain ⟨c0, c1⟩ := cells2w kS1
  by_cases hln : (0 ≤ line ∧ line < ((LN l).length : Int)) ∧ 0 ≤ col
  case neg =>
    have HV : Hid (atP l line col r m = 0 ∧ atR l line col r m = 2) := hide (by
      unfold atP atR
      rw [hru, hmu]
      simp only [Bool.and_self, if_true]
      by_cases h1 : 0 ≤ line ∧ line < ((LN l).length : Int)
      · have : nbr l line = some ((LN l).getD line.toNat z4) := by unfold nbr; rw [if_pos h1]
        rw [this]
        dsimp only
        rw [if_pos (by omega), if_pos (by omega)]
        exact ⟨rfl, rfl⟩
      · have : nbr l line = none := by unfold nbr; rw [if_neg h1]
        rw [this]
        exact ⟨rfl, rfl⟩)
    have HT : Hid (decide (line < 0) = true ∨ (decide (line < 0) = false ∧ decide (line ≥ ((LN l).length : Int)) = true ∧ decide (((LN l).length : Int) ≤ line) = true) ∨ (decide (line < 0) = false ∧ decide (line ≥ ((LN l).length : Int)) = false ∧ decide (((LN l).length : Int) ≤ line) = false ∧ decide (col < 0) = true)) := hide (by
      by_cases h1 : line < 0
      · exact Or.inl (decide_eq_true h1)
      · by_cases h2 : ((LN l).length : Int) ≤ line
        · exact Or.inr (Or.inl ⟨decide_eq_false h1, decide_eq_true h2, decide_eq_true h2⟩)
        · exact Or.inr (Or.inr ⟨decide_eq_false h1, decide_eq_false h2, decide_eq_false h2, decide_eq_true (by omega)⟩))
    clear hln hB hru hmu lR zR kS1 hN
    rcases unhide HT with t1 | ⟨t1, t2, t3⟩ | ⟨t1, t2, t3, t4⟩
    all_goals
      go_wp2_with fail
      rw [(unhide HV).1, (unhide HV).2]
      refine bodyPost_ret (results_tmp2 rfl _ _ _) rfl ⟨rfl, b1⟩
  obtain ⟨⟨hl0, hl1⟩, hc0⟩ := hln
  obtain ⟨i, rfl⟩ : ∃ i : Nat, line = (i : Int) := ⟨line.toNat, by omega⟩
  have hi : i < (LN l).length := by omega
  have t1 : decide ((i : Int) < 0) = false := decide_eq_false (by omega)
  have t2 : decide ((i : Int) ≥ ((LN l).length : Int)) = false := decide_eq_false (by omega)
  have t3 : decide (((LN l).length : Int) ≤ (i : Int)) = false := decide_eq_false (by omega)
  have t7 : decide ((LN l).length ≤ i) = false := decide_eq_false (by omega)
  have t4 : decide (col < 0) = false := decide_eq_false (by omega)
  -- the line
  have hnb : nbr l (i : Int) = some ((LN l).getD i z4) := by unfold nbr; rw [if_pos ⟨by omega, by omega⟩]; simp
  obtain ⟨_, _, k3⟩ := LN_at l hi
  obtain ⟨e1, e2, e3, e4, e5⟩ := lst_edge hi
  have HX : Hid (LnX l ((LN l).getD i z4).2.1 (lst ((LN l).getD i z4))) := hide ⟨hB.2.2.2, k3.es, e1, e2, e3⟩
  have HV : Hid (atR l (i : Int) col r m = (if toR r col 1 m (EE (cutL l ((LN l).getD i z4).2.1 (lst ((LN l).getD i z4)))) = 2 ∧ m ≠ 3 then 0 else toR r col 1 m (EE (cutL l ((LN l).getD i z4).2.1 (lst ((LN l).getD i z4))))) ∧
      atP l (i : Int) col r m = (if toR r col 1 m (EE (cutL l ((LN l).getD i z4).2.1 (lst ((LN l).getD i z4)))) = 2 ∧ m ≠ 3 then ((LN l).getD i z4).2.2.1 else if toR r col 1 m (EE (cutL l ((LN l).getD i z4).2.1 (lst ((LN l).getD i z4)))) = 0 then ((LN l).getD i z4).2.1 + toP r col 1 m (EE (cutL l ((LN l).getD i z4).2.1 (lst ((LN l).getD i z4)))) else 0)) := hide (by
    unfold atR atP
    rw [hru, hmu, hnb]
    simp only [Bool.and_self, if_true]
    have hcc : ¬ col < 0 := by omega
    simp only [if_neg hcc, and_self])
  have hcn := k3.cn
  have hsc := k3.sc
  have hnl := k3.nl
  have hlaD : lst ((LN l).getD i z4) = max ((LN l).getD i z4).2.2.1 (((LN l).getD i z4).2.2.2 - 1) := rfl
  have hn2 : ((LN l).getD i z4).2.2.2 ≤ ((LN l).getD i z4).2.2.1 + 2 := by
    rcases Nat.lt_or_ge (i + 1) (LN l).length with h | h
    · rw [(k3.mid h).2.2.1]; unfold nxt edw; split <;> omega
    · have := k3.fin (by omega); omega
  obtain ⟨q0, q1, q2⟩ := lR i hi
  clear e1 e2 e4 e5 k3 hnb hl0 hl1 lR
  have hlaN : lst ((LN l).getD i z4) ≤ l.length := e3
  generalize lst ((LN l).getD i z4) = la at *
  generalize ((LN l).getD i z4).2.1 = st at *
  generalize ((LN l).getD i z4).2.2.1 = ct at *
  generalize ((LN l).getD i z4).2.2.2 = nx at *
  have HLa := hide fun X => RLast7_at st ct nx la X (by omega) (by omega) hcn hn2 hlaD
  clear hlaD hn2 hcn hsc hnl
  have x2 := (Below.refl w1.heap.size w1).alloc (Nat.le_refl _) (.cells #[.int .i64 (st : Int), .int .i64 (ct : Int), .int .i64 (nx : Int)] 76)
  have kr := Cls.new w1 76 #[.int .i64 (st : Int), .int .i64 (ct : Int), .int .i64 (nx : Int)]
  have kS2 := kS1.below x2 kS1.lt
  have b2 := b1.trans (x2.mono b1.size)
  have hB2 := hB.below b2 (Nat.le_refl _)
  clear kS1 b1 x2 zR
  go_wp2_with fail
  clear t1 t2 t3 t4 t7 c0 c1 q0 q1 q2 hi
  generalize hgr : w1.heap.size = gr at *
  clear hgr
  generalize w1.alloc (.cells #[.int .i64 (st : Int), .int .i64 (ct : Int), .int .i64 (nx : Int)] 76) = w2 at *
  refine (Edges4_at a0 cap l w2 hB2 (by omega)).mono ?_
  rintro y w3 ⟨v, rfl, o3, x3⟩
  have hlen : (spots l 0).length + 1 = (edN l).length := by simp [edN]
  rw [hlen] at o3
  have hEn : (edN l).length ≤ l.length + 1 := by rw [← hlen]; have := spots_lenS l l.length 0 (by omega) (Nat.zero_le _); omega
  obtain ⟨gE, cE, rfl, lE, zE⟩ := rowI (ps := edN l) o3 (by simp [edN])
  have HS3 : Hid (AqS w gS gr gE (i : Int) col st ct nx (edN l) w3) := hide ⟨b2.trans (x3.mono b2.size), kS2.below x3 kS2.lt, kr.below x3 kr.lt, lE, zE⟩
  clear o3 x3 lE zE kS2 kr b2 hB2 hlen
  have HB := hide hB
  have HEL : Hid (∀ k, k < (edN l).length → (edN l).getD k 0 ≤ l.length) := hide (fun k hk => edN_le hB.2.2.2 hk)
  clear hB hru hmu
  go_wp2_with fail
  go_loopw [12, 13, 15, 16] (fun vb va vi vc wx => ∃ (k : Nat) (bl ab : Int), k ≤ (edN l).length ∧ vb = .int .i64 bl ∧ va = .int .i64 ab ∧ vi = .int .i64 k ∧ (∃ z, vc = z) ∧ Hid (AtQ l st la r col k bl ab) ∧ Hid (AqS w gS gr gE (i : Int) col st ct nx (edN l) wx)) (fun _ _ vi _ _ => (edN l).length - (intOf vi).toNat)
  case atStart => exact ⟨0, -1, -1, Nat.zero_le _, rfl, rfl, rfl, ⟨_, rfl⟩, hide (AtQ.zero l st la r col), HS3⟩
  case round =>
    clear HS3
    obtain ⟨k, bl, ab, hk, rfl, rfl, rfl, ⟨z, rfl⟩, HI, HS⟩ := hrel
    by_cases hlt : k < (edN l).length
    · have t1 := lt_int hlt
      generalize hq : (edN l).getD k 0 = q at *
      have HQ := hide hq
      have hqn : q ≤ l.length := by rw [← hq]; exact unhide HEL k hlt
      clear hq
      have HCE : Hid (∀ X, AqS w gS gr gE (i : Int) col st ct nx (edN l) X → (X.cell? ⟨gE, k, none⟩ = some (.int .i64 (q : Int)) ∧ X.cell? ⟨gr, 0, none⟩ = some (.int .i64 (st : Int)) ∧ X.cell? ⟨gr, 1, none⟩ = some (.int .i64 (ct : Int)) ∧ X.cell? ⟨gr, 2, none⟩ = some (.int .i64 (nx : Int)))) := hide fun X h => by
        have c := h.e k hlt
        rw [unhide HQ] at c
        obtain ⟨p0, p1, p2⟩ := cells3w h.r
        exact ⟨c, p0, p1, p2⟩
      go_wp2_with fail
      have HD : Hid (AqS w gS gr gE (i : Int) col st ct nx (edN l) wr.drew) := hide ((unhide HS).on (drew_belowL wr))
      clear HS
      by_cases hlo : q < st
      · have t2 : decide ((q : Int) < (st : Int)) = true := decide_eq_true (by omega)
        have HI2 := hide ((unhide HI).skip (fun h => by have := h.1; rw [unhide HQ] at this; omega))
        clear HI
        refine regionL (S := fun w' => w'.cell? ⟨gE, k, none⟩ = some (.int .i64 (q : Int)) ∧ w'.cell? ⟨gr, 0, none⟩ = some (.int .i64 (st : Int)) ∧ w'.cell? ⟨gr, 1, none⟩ = some (.int .i64 (ct : Int)) ∧ w'.cell? ⟨gr, 2, none⟩ = some (.int .i64 (nx : Int))) (fun _ => false) (by kernel_rfl) ?_
        generalize wr.drew = v0 at *
        refine anyL_take (i := 0) (v := ?vno0) rfl (by kernel_rfl) (by kernel_rfl) (by kernel_rfl) (by kernel_rfl) (fun _ _ _ h => h) (Or.inl ⟨by rfl, ?hno0⟩) (unhide HCE _ (unhide HD)) ?_
        case hno0 => (intro w hSw; (try dsimp only at hSw); go_simp) <;> with_reducible rfl
        simp only [Act.put, List.getElem_toArray, List.getElem_cons_zero, List.setIfInBounds_toArray, List.set_cons_zero, List.set_cons_succ]
        refine anyL_take (i := 1) (v := ?vno1) rfl (by kernel_rfl) (by kernel_rfl) (by kernel_rfl) (by kernel_rfl) (fun _ _ _ h => h) (Or.inl ⟨by rfl, ?hno1⟩) (unhide HCE _ (unhide HD)) ?_
        case hno1 => (intro w hSw; (try dsimp only at hSw); go_simp) <;> with_reducible rfl
        simp only [Act.put, List.getElem_toArray, List.getElem_cons_zero, List.getElem_cons_succ, List.setIfInBounds_toArray, List.set_cons_zero, List.set_cons_succ]
        refine anyL_take (i := 2) (v := ?vno2) rfl (by kernel_rfl) (by kernel_rfl) (by kernel_rfl) (by kernel_rfl) (fun _ _ _ h => h) (Or.inl ⟨by rfl, ?hno2⟩) (unhide HCE _ (unhide HD)) ?_
        case hno2 => (intro w hSw; (try dsimp only at hSw); go_simp) <;> with_reducible rfl
        simp only [Act.put, List.getElem_toArray, List.getElem_cons_zero, List.getElem_cons_succ, List.setIfInBounds_toArray, List.set_cons_zero, List.set_cons_succ]
        refine anyL_take (i := 3) (v := ?vno3) rfl (by kernel_rfl) (by kernel_rfl) (by kernel_rfl) (by kernel_rfl) (fun _ _ _ h => h) (Or.inl ⟨by rfl, ?hno3⟩) (unhide HCE _ (unhide HD)) ?_
        case hno3 => (intro w hSw; (try dsimp only at hSw); go_simp) <;> with_reducible rfl
        simp only [Act.put, List.getElem_toArray, List.getElem_cons_zero, List.getElem_cons_succ, List.setIfInBounds_toArray, List.set_cons_zero, List.set_cons_succ]
        refine anyL_take (i := 4) (v := ?vno4) rfl (by kernel_rfl) (by kernel_rfl) (by kernel_rfl) (by kernel_rfl) (fun _ _ _ h => h) (Or.inl ⟨by rfl, ?hno4⟩) (unhide HCE _ (unhide HD)) ?_
        case hno4 => (intro w hSw; (try dsimp only at hSw); go_simp) <;> with_reducible rfl
        simp only [Act.put, List.getElem_toArray, List.getElem_cons_zero, List.getElem_cons_succ, List.setIfInBounds_toArray, List.set_cons_zero, List.set_cons_succ]
        refine anyL_take (i := 5) (v := ?vno5) rfl (by kernel_rfl) (by kernel_rfl) (by kernel_rfl) (by kernel_rfl) (fun _ _ _ h => h) (Or.inl ⟨by rfl, ?hno5⟩) (unhide HCE _ (unhide HD)) ?_
        case hno5 => (intro w hSw; (try dsimp only at hSw); go_simp) <;> with_reducible rfl
        simp only [Act.put, List.getElem_toArray, List.getElem_cons_zero, List.getElem_cons_succ, List.setIfInBounds_toArray, List.set_cons_zero, List.set_cons_succ]
        refine anyL_take (i := 6) (v := ?vno6) rfl (by kernel_rfl) (by kernel_rfl) (by kernel_rfl) (by kernel_rfl) (fun _ _ _ h => h) (Or.inl ⟨by rfl, ?hno6⟩) (unhide HCE _ (unhide HD)) ?_
        case hno6 => (intro w hSw; (try dsimp only at hSw); go_simp) <;> with_reducible rfl
        simp only [Act.put, List.getElem_toArray, List.getElem_cons_zero, List.getElem_cons_succ, List.setIfInBounds_toArray, List.set_cons_zero, List.set_cons_succ]
        refine anyL_take (i := 7) (v := ?vno7) rfl (by kernel_rfl) (by kernel_rfl) (by kernel_rfl) (by kernel_rfl) (fun _ _ _ h => h) (Or.inl ⟨by rfl, ?hno7⟩) (unhide HCE _ (unhide HD)) ?_
        case hno7 => (intro w hSw; (try dsimp only at hSw); go_simp) <;> with_reducible rfl
        simp only [Act.put, List.getElem_toArray, List.getElem_cons_zero, List.getElem_cons_succ, List.setIfInBounds_toArray, List.set_cons_zero, List.set_cons_succ]
        refine anyL_take (i := 8) (v := undef) rfl (by kernel_rfl) (by kernel_rfl) (by kernel_rfl) (by kernel_rfl) (fun _ _ _ h => h) (Or.inr ⟨by rfl, rfl⟩) (unhide HCE _ (unhide HD)) ?_
        simp only [Act.put, List.getElem_toArray, List.getElem_cons_zero, List.getElem_cons_succ, List.setIfInBounds_toArray, List.set_cons_zero, List.set_cons_succ]
        refine anyL_take (i := 9) (v := undef) rfl (by kernel_rfl) (by kernel_rfl) (by kernel_rfl) (by kernel_rfl) (fun _ _ _ h => h) (Or.inr ⟨by rfl, rfl⟩) (unhide HCE _ (unhide HD)) ?_
        simp only [Act.put, List.getElem_toArray, List.getElem_cons_zero, List.getElem_cons_succ, List.setIfInBounds_toArray, List.set_cons_zero, List.set_cons_succ]
        refine anyL_take (i := 10) (v := undef) rfl (by kernel_rfl) (by kernel_rfl) (by kernel_rfl) (by kernel_rfl) (fun _ _ _ h => h) (Or.inr ⟨by rfl, rfl⟩) (unhide HCE _ (unhide HD)) ?_
        simp only [Act.put, List.getElem_toArray, List.getElem_cons_zero, List.getElem_cons_succ, List.setIfInBounds_toArray, List.set_cons_zero, List.set_cons_succ]
        refine anyL_take (i := 11) (v := undef) rfl (by kernel_rfl) (by kernel_rfl) (by kernel_rfl) (by kernel_rfl) (fun _ _ _ h => h) (Or.inr ⟨by rfl, rfl⟩) (unhide HCE _ (unhide HD)) ?_
        simp only [Act.put, List.getElem_toArray, List.getElem_cons_zero, List.getElem_cons_succ, List.setIfInBounds_toArray, List.set_cons_zero, List.set_cons_succ]
        refine anyL_take (i := 12) (v := undef) rfl (by kernel_rfl) (by kernel_rfl) (by kernel_rfl) (by kernel_rfl) (fun _ _ _ h => h) (Or.inr ⟨by rfl, rfl⟩) (unhide HCE _ (unhide HD)) ?_
        simp only [Act.put, List.getElem_toArray, List.getElem_cons_zero, List.getElem_cons_succ, List.setIfInBounds_toArray, List.set_cons_zero, List.set_cons_succ]
        refine anyL_take (i := 13) (v := undef) rfl (by kernel_rfl) (by kernel_rfl) (by kernel_rfl) (by kernel_rfl) (fun _ _ _ h => h) (Or.inr ⟨by rfl, rfl⟩) (unhide HCE _ (unhide HD)) ?_
        simp only [Act.put, List.getElem_toArray, List.getElem_cons_zero, List.getElem_cons_succ, List.setIfInBounds_toArray, List.set_cons_zero, List.set_cons_succ]
        refine anyL_take (i := 14) (v := undef) rfl (by kernel_rfl) (by kernel_rfl) (by kernel_rfl) (by kernel_rfl) (fun _ _ _ h => h) (Or.inr ⟨by rfl, rfl⟩) (unhide HCE _ (unhide HD)) ?_
        simp only [Act.put, List.getElem_toArray, List.getElem_cons_zero, List.getElem_cons_succ, List.setIfInBounds_toArray, List.set_cons_zero, List.set_cons_succ]
        refine anyL_take (i := 15) (v := ?vno15) rfl (by kernel_rfl) (by kernel_rfl) (by kernel_rfl) (by kernel_rfl) (fun _ _ _ h => h) (Or.inl ⟨by rfl, ?hno15⟩) (unhide HCE _ (unhide HD)) ?_
        case hno15 => (intro w hSw; (try dsimp only at hSw); go_simp) <;> with_reducible rfl
        simp only [Act.put, List.getElem_toArray, List.getElem_cons_zero, List.getElem_cons_succ, List.setIfInBounds_toArray, List.set_cons_zero, List.set_cons_succ]
        refine anyL_done (by kernel_rfl) ?_ _
        go_wp2_with fail
        go_roundw
        case rel => exact ⟨k + 1, bl, ab, hlt, rfl, rfl, by go_num, ⟨_, rfl⟩, HI2, HD⟩
        case measure => simp [intOf]; omega
      · have t2 : decide ((q : Int) < (st : Int)) = false := decide_eq_false (by omega)
        by_cases hhi : la < q
        · have t3 : decide ((q : Int) > (la : Int)) = true := decide_eq_true (by omega)
          have t3' : decide ((la : Int) < (q : Int)) = true := decide_eq_true (by omega)
          have HI2 := hide ((unhide HI).skip (fun h => by have := h.2; rw [unhide HQ] at this; omega))
          clear HI
          refine regionL (S := fun w' => w'.cell? ⟨gE, k, none⟩ = some (.int .i64 (q : Int)) ∧ w'.cell? ⟨gr, 0, none⟩ = some (.int .i64 (st : Int)) ∧ w'.cell? ⟨gr, 1, none⟩ = some (.int .i64 (ct : Int)) ∧ w'.cell? ⟨gr, 2, none⟩ = some (.int .i64 (nx : Int))) (fun _ => false) (by kernel_rfl) ?_
          generalize wr.drew = v0 at *
          refine anyL_take (i := 0) (v := ?vhi16) rfl (by kernel_rfl) (by kernel_rfl) (by kernel_rfl) (by kernel_rfl) (fun _ _ _ h => h) (Or.inl ⟨by rfl, ?hhi16⟩) (unhide HCE _ (unhide HD)) ?_
          case hhi16 => (intro w hSw; (try dsimp only at hSw); go_simp) <;> with_reducible rfl
          simp only [Act.put, List.getElem_toArray, List.getElem_cons_zero, List.setIfInBounds_toArray, List.set_cons_zero, List.set_cons_succ]
          refine anyL_take (i := 1) (v := ?vhi17) rfl (by kernel_rfl) (by kernel_rfl) (by kernel_rfl) (by kernel_rfl) (fun _ _ _ h => h) (Or.inl ⟨by rfl, ?hhi17⟩) (unhide HCE _ (unhide HD)) ?_
          case hhi17 => (intro w hSw; (try dsimp only at hSw); go_simp) <;> with_reducible rfl
          simp only [Act.put, List.getElem_toArray, List.getElem_cons_zero, List.getElem_cons_succ, List.setIfInBounds_toArray, List.set_cons_zero, List.set_cons_succ]
          refine anyL_take (i := 2) (v := ?vhi18) rfl (by kernel_rfl) (by kernel_rfl) (by kernel_rfl) (by kernel_rfl) (fun _ _ _ h => h) (Or.inl ⟨by rfl, ?hhi18⟩) (unhide HCE _ (unhide HD)) ?_
          case hhi18 => (intro w hSw; (try dsimp only at hSw); go_simp) <;> with_reducible rfl
          simp only [Act.put, List.getElem_toArray, List.getElem_cons_zero, List.getElem_cons_succ, List.setIfInBounds_toArray, List.set_cons_zero, List.set_cons_succ]
          refine anyL_take (i := 3) (v := ?vhi19) rfl (by kernel_rfl) (by kernel_rfl) (by kernel_rfl) (by kernel_rfl) (fun _ _ _ h => h) (Or.inl ⟨by rfl, ?hhi19⟩) (unhide HCE _ (unhide HD)) ?_
          case hhi19 => (intro w hSw; (try dsimp only at hSw); go_simp) <;> with_reducible rfl
          simp only [Act.put, List.getElem_toArray, List.getElem_cons_zero, List.getElem_cons_succ, List.setIfInBounds_toArray, List.set_cons_zero, List.set_cons_succ]
          refine anyL_take (i := 4) (v := ?vhi20) rfl (by kernel_rfl) (by kernel_rfl) (by kernel_rfl) (by kernel_rfl) (fun _ _ _ h => h) (Or.inl ⟨by rfl, ?hhi20⟩) (unhide HCE _ (unhide HD)) ?_
          case hhi20 => (intro w hSw; (try dsimp only at hSw); go_simp) <;> with_reducible rfl
          simp only [Act.put, List.getElem_toArray, List.getElem_cons_zero, List.getElem_cons_succ, List.setIfInBounds_toArray, List.set_cons_zero, List.set_cons_succ]
          refine anyL_take (i := 5) (v := ?vhi21) rfl (by kernel_rfl) (by kernel_rfl) (by kernel_rfl) (by kernel_rfl) (fun _ _ _ h => h) (Or.inl ⟨by rfl, ?hhi21⟩) (unhide HCE _ (unhide HD)) ?_
          case hhi21 => (intro w hSw; (try dsimp only at hSw); go_simp) <;> with_reducible rfl
          simp only [Act.put, List.getElem_toArray, List.getElem_cons_zero, List.getElem_cons_succ, List.setIfInBounds_toArray, List.set_cons_zero, List.set_cons_succ]
          refine anyL_take (i := 6) (v := ?vhi22) rfl (by kernel_rfl) (by kernel_rfl) (by kernel_rfl) (by kernel_rfl) (fun _ _ _ h => h) (Or.inl ⟨by rfl, ?hhi22⟩) (unhide HCE _ (unhide HD)) ?_
          case hhi22 => (intro w hSw; (try dsimp only at hSw); go_simp) <;> with_reducible rfl
          simp only [Act.put, List.getElem_toArray, List.getElem_cons_zero, List.getElem_cons_succ, List.setIfInBounds_toArray, List.set_cons_zero, List.set_cons_succ]
          refine anyL_take (i := 7) (v := ?vhi23) rfl (by kernel_rfl) (by kernel_rfl) (by kernel_rfl) (by kernel_rfl) (fun _ _ _ h => h) (Or.inl ⟨by rfl, ?hhi23⟩) (unhide HCE _ (unhide HD)) ?_
          case hhi23 => (intro w hSw; (try dsimp only at hSw); go_simp) <;> with_reducible rfl
          simp only [Act.put, List.getElem_toArray, List.getElem_cons_zero, List.getElem_cons_succ, List.setIfInBounds_toArray, List.set_cons_zero, List.set_cons_succ]
          refine anyL_take (i := 8) (v := ?vhi24) rfl (by kernel_rfl) (by kernel_rfl) (by kernel_rfl) (by kernel_rfl) (fun _ _ _ h => h) (Or.inl ⟨by rfl, ?hhi24⟩) (unhide HCE _ (unhide HD)) ?_
          case hhi24 => (intro w hSw; (try dsimp only at hSw); go_simp) <;> with_reducible rfl
          simp only [Act.put, List.getElem_toArray, List.getElem_cons_zero, List.getElem_cons_succ, List.setIfInBounds_toArray, List.set_cons_zero, List.set_cons_succ]
          refine anyL_take (i := 9) (v := ?vhi25) rfl (by kernel_rfl) (by kernel_rfl) (by kernel_rfl) (by kernel_rfl) (fun _ _ _ h => h) (Or.inl ⟨by rfl, ?hhi25⟩) (unhide HCE _ (unhide HD)) ?_
          case hhi25 => (intro w hSw; (try dsimp only at hSw); go_simp) <;> with_reducible rfl
          simp only [Act.put, List.getElem_toArray, List.getElem_cons_zero, List.getElem_cons_succ, List.setIfInBounds_toArray, List.set_cons_zero, List.set_cons_succ]
          refine anyL_take (i := 10) (v := ?vhi26) rfl (by kernel_rfl) (by kernel_rfl) (by kernel_rfl) (by kernel_rfl) (fun _ _ _ h => h) (Or.inl ⟨by rfl, ?hhi26⟩) (unhide HCE _ (unhide HD)) ?_
          case hhi26 => (intro w hSw; (try dsimp only at hSw); go_simp) <;> with_reducible rfl
          simp only [Act.put, List.getElem_toArray, List.getElem_cons_zero, List.getElem_cons_succ, List.setIfInBounds_toArray, List.set_cons_zero, List.set_cons_succ]
          refine anyL_take (i := 11) (v := ?vhi27) rfl (by kernel_rfl) (by kernel_rfl) (by kernel_rfl) (by kernel_rfl) (fun _ _ _ h => h) (Or.inl ⟨by rfl, ?hhi27⟩) (unhide HCE _ (unhide HD)) ?_
          case hhi27 => (intro w hSw; (try dsimp only at hSw); go_simp) <;> with_reducible rfl
          simp only [Act.put, List.getElem_toArray, List.getElem_cons_zero, List.getElem_cons_succ, List.setIfInBounds_toArray, List.set_cons_zero, List.set_cons_succ]
          refine anyL_take (i := 12) (v := ?vhi28) rfl (by kernel_rfl) (by kernel_rfl) (by kernel_rfl) (by kernel_rfl) (fun _ _ _ h => h) (Or.inl ⟨by rfl, ?hhi28⟩) (unhide HCE _ (unhide HD)) ?_
          case hhi28 => (intro w hSw; (try dsimp only at hSw); go_simp) <;> with_reducible rfl
          simp only [Act.put, List.getElem_toArray, List.getElem_cons_zero, List.getElem_cons_succ, List.setIfInBounds_toArray, List.set_cons_zero, List.set_cons_succ]
          refine anyL_ready (rs := [13]) (by kernel_rfl) (by simp) ?_
          refine AllL.cons rfl (fun K hK => ?_) AllL.nil
          go_simp
          refine (unhide HLa _).mono ?_
          rintro y v1 ⟨rfl, bx⟩
          have HE := hide ((unhide HD).on bx)
          refine unhide hK _ _ (fun _ => unhide HCE _ (unhide HE)) ?_
          clear hK K bx HD
          refine anyL_take (i := 14) (v := ?vhi29) rfl (by kernel_rfl) (by kernel_rfl) (by kernel_rfl) (by kernel_rfl) (fun _ _ _ h => h) (Or.inl ⟨by rfl, ?hhi29⟩) (unhide HCE _ (unhide HE)) ?_
          case hhi29 => (intro w hSw; (try dsimp only at hSw); go_simp) <;> with_reducible rfl
          simp only [Act.put, List.getElem_toArray, List.getElem_cons_zero, List.getElem_cons_succ, List.setIfInBounds_toArray, List.set_cons_zero, List.set_cons_succ]
          refine anyL_take (i := 15) (v := ?vhi30) rfl (by kernel_rfl) (by kernel_rfl) (by kernel_rfl) (by kernel_rfl) (fun _ _ _ h => h) (Or.inl ⟨by rfl, ?hhi30⟩) (unhide HCE _ (unhide HE)) ?_
          case hhi30 => (intro w hSw; (try dsimp only at hSw); go_simp) <;> with_reducible rfl
          simp only [Act.put, List.getElem_toArray, List.getElem_cons_zero, List.getElem_cons_succ, List.setIfInBounds_toArray, List.set_cons_zero, List.set_cons_succ]
          refine anyL_done (by kernel_rfl) ?_ _
          go_wp2_with fail
          go_roundw
          case rel => exact ⟨k + 1, bl, ab, hlt, rfl, rfl, by go_num, ⟨_, rfl⟩, HI2, HE⟩
          case measure => simp [intOf]; omega
        · have t3 : decide ((q : Int) > (la : Int)) = false := decide_eq_false (by omega)
          have t3' : decide ((la : Int) < (q : Int)) = false := decide_eq_false (by omega)
          have HIN : Hid (inR l st la k) := hide ⟨by rw [unhide HQ]; omega, by rw [unhide HQ]; omega⟩
          have hcc := ccE_at (l := l) (st := st) (r := r) (unhide HQ)
          refine regionL (S := fun w' => w'.cell? ⟨gE, k, none⟩ = some (.int .i64 (q : Int)) ∧ w'.cell? ⟨gr, 0, none⟩ = some (.int .i64 (st : Int)) ∧ w'.cell? ⟨gr, 1, none⟩ = some (.int .i64 (ct : Int)) ∧ w'.cell? ⟨gr, 2, none⟩ = some (.int .i64 (nx : Int))) (fun _ => false) (by kernel_rfl) ?_
          generalize wr.drew = v0 at *
          refine anyL_take (i := 0) (v := ?vin31) rfl (by kernel_rfl) (by kernel_rfl) (by kernel_rfl) (by kernel_rfl) (fun _ _ _ h => h) (Or.inl ⟨by rfl, ?hin31⟩) (unhide HCE _ (unhide HD)) ?_
          case hin31 => (intro w hSw; (try dsimp only at hSw); go_simp) <;> with_reducible rfl
          simp only [Act.put, List.getElem_toArray, List.getElem_cons_zero, List.setIfInBounds_toArray, List.set_cons_zero, List.set_cons_succ]
          refine anyL_take (i := 1) (v := ?vin32) rfl (by kernel_rfl) (by kernel_rfl) (by kernel_rfl) (by kernel_rfl) (fun _ _ _ h => h) (Or.inl ⟨by rfl, ?hin32⟩) (unhide HCE _ (unhide HD)) ?_
          case hin32 => (intro w hSw; (try dsimp only at hSw); go_simp) <;> with_reducible rfl
          simp only [Act.put, List.getElem_toArray, List.getElem_cons_zero, List.getElem_cons_succ, List.setIfInBounds_toArray, List.set_cons_zero, List.set_cons_succ]
          refine anyL_take (i := 2) (v := ?vin33) rfl (by kernel_rfl) (by kernel_rfl) (by kernel_rfl) (by kernel_rfl) (fun _ _ _ h => h) (Or.inl ⟨by rfl, ?hin33⟩) (unhide HCE _ (unhide HD)) ?_
          case hin33 => (intro w hSw; (try dsimp only at hSw); go_simp) <;> with_reducible rfl
          simp only [Act.put, List.getElem_toArray, List.getElem_cons_zero, List.getElem_cons_succ, List.setIfInBounds_toArray, List.set_cons_zero, List.set_cons_succ]
          refine anyL_take (i := 3) (v := ?vin34) rfl (by kernel_rfl) (by kernel_rfl) (by kernel_rfl) (by kernel_rfl) (fun _ _ _ h => h) (Or.inl ⟨by rfl, ?hin34⟩) (unhide HCE _ (unhide HD)) ?_
          case hin34 => (intro w hSw; (try dsimp only at hSw); go_simp) <;> with_reducible rfl
          simp only [Act.put, List.getElem_toArray, List.getElem_cons_zero, List.getElem_cons_succ, List.setIfInBounds_toArray, List.set_cons_zero, List.set_cons_succ]
          refine anyL_take (i := 4) (v := ?vin35) rfl (by kernel_rfl) (by kernel_rfl) (by kernel_rfl) (by kernel_rfl) (fun _ _ _ h => h) (Or.inl ⟨by rfl, ?hin35⟩) (unhide HCE _ (unhide HD)) ?_
          case hin35 => (intro w hSw; (try dsimp only at hSw); go_simp) <;> with_reducible rfl
          simp only [Act.put, List.getElem_toArray, List.getElem_cons_zero, List.getElem_cons_succ, List.setIfInBounds_toArray, List.set_cons_zero, List.set_cons_succ]
          refine anyL_take (i := 5) (v := ?vin36) rfl (by kernel_rfl) (by kernel_rfl) (by kernel_rfl) (by kernel_rfl) (fun _ _ _ h => h) (Or.inl ⟨by rfl, ?hin36⟩) (unhide HCE _ (unhide HD)) ?_
          case hin36 => (intro w hSw; (try dsimp only at hSw); go_simp) <;> with_reducible rfl
          simp only [Act.put, List.getElem_toArray, List.getElem_cons_zero, List.getElem_cons_succ, List.setIfInBounds_toArray, List.set_cons_zero, List.set_cons_succ]
          refine anyL_take (i := 6) (v := ?vin37) rfl (by kernel_rfl) (by kernel_rfl) (by kernel_rfl) (by kernel_rfl) (fun _ _ _ h => h) (Or.inl ⟨by rfl, ?hin37⟩) (unhide HCE _ (unhide HD)) ?_
          case hin37 => (intro w hSw; (try dsimp only at hSw); go_simp) <;> with_reducible rfl
          simp only [Act.put, List.getElem_toArray, List.getElem_cons_zero, List.getElem_cons_succ, List.setIfInBounds_toArray, List.set_cons_zero, List.set_cons_succ]
          refine anyL_take (i := 7) (v := ?vin38) rfl (by kernel_rfl) (by kernel_rfl) (by kernel_rfl) (by kernel_rfl) (fun _ _ _ h => h) (Or.inl ⟨by rfl, ?hin38⟩) (unhide HCE _ (unhide HD)) ?_
          case hin38 => (intro w hSw; (try dsimp only at hSw); go_simp) <;> with_reducible rfl
          simp only [Act.put, List.getElem_toArray, List.getElem_cons_zero, List.getElem_cons_succ, List.setIfInBounds_toArray, List.set_cons_zero, List.set_cons_succ]
          refine anyL_take (i := 8) (v := ?vin39) rfl (by kernel_rfl) (by kernel_rfl) (by kernel_rfl) (by kernel_rfl) (fun _ _ _ h => h) (Or.inl ⟨by rfl, ?hin39⟩) (unhide HCE _ (unhide HD)) ?_
          case hin39 => (intro w hSw; (try dsimp only at hSw); go_simp) <;> with_reducible rfl
          simp only [Act.put, List.getElem_toArray, List.getElem_cons_zero, List.getElem_cons_succ, List.setIfInBounds_toArray, List.set_cons_zero, List.set_cons_succ]
          refine anyL_take (i := 9) (v := ?vin40) rfl (by kernel_rfl) (by kernel_rfl) (by kernel_rfl) (by kernel_rfl) (fun _ _ _ h => h) (Or.inl ⟨by rfl, ?hin40⟩) (unhide HCE _ (unhide HD)) ?_
          case hin40 => (intro w hSw; (try dsimp only at hSw); go_simp) <;> with_reducible rfl
          simp only [Act.put, List.getElem_toArray, List.getElem_cons_zero, List.getElem_cons_succ, List.setIfInBounds_toArray, List.set_cons_zero, List.set_cons_succ]
          refine anyL_take (i := 10) (v := ?vin41) rfl (by kernel_rfl) (by kernel_rfl) (by kernel_rfl) (by kernel_rfl) (fun _ _ _ h => h) (Or.inl ⟨by rfl, ?hin41⟩) (unhide HCE _ (unhide HD)) ?_
          case hin41 => (intro w hSw; (try dsimp only at hSw); go_simp) <;> with_reducible rfl
          simp only [Act.put, List.getElem_toArray, List.getElem_cons_zero, List.getElem_cons_succ, List.setIfInBounds_toArray, List.set_cons_zero, List.set_cons_succ]
          refine anyL_take (i := 11) (v := ?vin42) rfl (by kernel_rfl) (by kernel_rfl) (by kernel_rfl) (by kernel_rfl) (fun _ _ _ h => h) (Or.inl ⟨by rfl, ?hin42⟩) (unhide HCE _ (unhide HD)) ?_
          case hin42 => (intro w hSw; (try dsimp only at hSw); go_simp) <;> with_reducible rfl
          simp only [Act.put, List.getElem_toArray, List.getElem_cons_zero, List.getElem_cons_succ, List.setIfInBounds_toArray, List.set_cons_zero, List.set_cons_succ]
          refine anyL_take (i := 12) (v := ?vin43) rfl (by kernel_rfl) (by kernel_rfl) (by kernel_rfl) (by kernel_rfl) (fun _ _ _ h => h) (Or.inl ⟨by rfl, ?hin43⟩) (unhide HCE _ (unhide HD)) ?_
          case hin43 => (intro w hSw; (try dsimp only at hSw); go_simp) <;> with_reducible rfl
          simp only [Act.put, List.getElem_toArray, List.getElem_cons_zero, List.getElem_cons_succ, List.setIfInBounds_toArray, List.set_cons_zero, List.set_cons_succ]
          refine anyL_ready (rs := [13]) (by kernel_rfl) (by simp) ?_
          refine AllL.cons rfl (fun K hK => ?_) AllL.nil
          go_simp
          refine (unhide HLa _).mono ?_
          rintro y v1 ⟨rfl, bx⟩
          have HE := hide ((unhide HD).on bx)
          refine unhide hK _ _ (fun _ => unhide HCE _ (unhide HE)) ?_
          clear hK K bx HD
          refine anyL_take (i := 14) (v := ?vin44) rfl (by kernel_rfl) (by kernel_rfl) (by kernel_rfl) (by kernel_rfl) (fun _ _ _ h => h) (Or.inl ⟨by rfl, ?hin44⟩) (unhide HCE _ (unhide HE)) ?_
          case hin44 => (intro w hSw; (try dsimp only at hSw); go_simp) <;> with_reducible rfl
          simp only [Act.put, List.getElem_toArray, List.getElem_cons_zero, List.getElem_cons_succ, List.setIfInBounds_toArray, List.set_cons_zero, List.set_cons_succ]
          refine anyL_take (i := 15) (v := ?vin45) rfl (by kernel_rfl) (by kernel_rfl) (by kernel_rfl) (by kernel_rfl) (fun _ _ _ h => h) (Or.inl ⟨by rfl, ?hin45⟩) (unhide HCE _ (unhide HE)) ?_
          case hin45 => (intro w hSw; (try dsimp only at hSw); go_simp) <;> with_reducible rfl
          simp only [Act.put, List.getElem_toArray, List.getElem_cons_zero, List.getElem_cons_succ, List.setIfInBounds_toArray, List.set_cons_zero, List.set_cons_succ]
          refine anyL_done (by kernel_rfl) ?_ _
          clear t2 t3 t3' HCE
          go_wp2_with fail
          have HF : Hid (AqS w gS gr gE (i : Int) col st ct nx (edN l) v1.drew) := hide ((unhide HE).on (drew_belowL v1))
          clear HE
          have hcap := (unhide HB).1
          have hqc : q ≤ cap := by omega
          have hsq : st ≤ q := by omega
          have hLn : (cutL l st q).length = q - st := by unfold cutL; simp; omega
          have hR3 : r = 1 ∨ r = 2 ∨ r = 3 := (unhide HRM).1
          have S2 := hide (show ∀ (X : World), Below w.heap.size w X → Calls Tryz.prog 57 #[.slice (if cap = st then a0 else a0.map (·.add st)) (q - st) (cap - st), .int .i64 r] X fun y w' => y = .returned (.int .i64 (szE r (cutL l st q) : Int)) ∧ Below X.heap.size X w' from fun X hX => by
            have := RSize7_at _ _ (cutL l st q) r X ((((unhide HB).below hX (Nat.le_refl _)).takeR (n := q)).loR (n := st)) (by rw [hLn]; omega) hR3
            rw [hLn] at this
            exact this)
          clear hR3 hLn
          have HCC := hide hcc
          clear hcc
          generalize szE r (cutL l st q) = cv at *
          by_cases hcx : cap = st
          · have HC := hide (by have := unhide S2; rw [if_pos hcx] at this; exact this)
            have sub0 : cap - st = 0 := by omega
            have sub2 : q = st := by omega
            rw [sub0] at HC
            clear S2
            subst hcx
            subst sub2
            have z0 : q - q = 0 := Nat.sub_self _
            rw [z0] at HC
            have HCF : Hid (∀ X, AqS w gS gr gE (i : Int) col q ct nx (edN l) X → (X.cell? ⟨gE, k, none⟩ = some (.int .i64 (q : Int)) ∧ X.cell? ⟨gr, 0, none⟩ = some (.int .i64 (q : Int)))) := hide fun X h => by
              have c := h.e k hlt
              rw [unhide HQ] at c
              exact ⟨c, (cells3w h.r).1⟩
            refine regionL (S := fun w' => w'.cell? ⟨gE, k, none⟩ = some (.int .i64 (q : Int)) ∧ w'.cell? ⟨gr, 0, none⟩ = some (.int .i64 (q : Int))) (fun _ => false) (by kernel_rfl) ?_
            generalize v1.drew = v2 at *
            refine anyL_take (i := 0) (v := ?vp46) rfl (by kernel_rfl) (by kernel_rfl) (by kernel_rfl) (by kernel_rfl) (fun _ _ _ h => h) (Or.inl ⟨by rfl, ?hp46⟩) (unhide HCF _ (unhide HF)) ?_
            case hp46 => (intro w hSw; (try dsimp only at hSw); go_simp) <;> with_reducible rfl
            simp only [Act.put, List.getElem_toArray, List.getElem_cons_zero, List.setIfInBounds_toArray, List.set_cons_zero, List.set_cons_succ]
            refine anyL_take (i := 1) (v := ?vp47) rfl (by kernel_rfl) (by kernel_rfl) (by kernel_rfl) (by kernel_rfl) (fun _ _ _ h => h) (Or.inl ⟨by rfl, ?hp47⟩) (unhide HCF _ (unhide HF)) ?_
            case hp47 => (intro w hSw; (try dsimp only at hSw); go_simp) <;> with_reducible rfl
            simp only [Act.put, List.getElem_toArray, List.getElem_cons_zero, List.getElem_cons_succ, List.setIfInBounds_toArray, List.set_cons_zero, List.set_cons_succ]
            refine anyL_take (i := 2) (v := ?vp48) rfl (by kernel_rfl) (by kernel_rfl) (by kernel_rfl) (by kernel_rfl) (fun _ _ _ h => h) (Or.inl ⟨by rfl, ?hp48⟩) (unhide HCF _ (unhide HF)) ?_
            case hp48 => (intro w hSw; (try dsimp only at hSw); go_simp) <;> with_reducible rfl
            simp only [Act.put, List.getElem_toArray, List.getElem_cons_zero, List.getElem_cons_succ, List.setIfInBounds_toArray, List.set_cons_zero, List.set_cons_succ]
            refine anyL_take (i := 3) (v := ?vp49) rfl (by kernel_rfl) (by kernel_rfl) (by kernel_rfl) (by kernel_rfl) (fun _ _ _ h => h) (Or.inl ⟨by rfl, ?hp49⟩) (unhide HCF _ (unhide HF)) ?_
            case hp49 => (intro w hSw; (try dsimp only at hSw); go_simp) <;> with_reducible rfl
            simp only [Act.put, List.getElem_toArray, List.getElem_cons_zero, List.getElem_cons_succ, List.setIfInBounds_toArray, List.set_cons_zero, List.set_cons_succ]
            refine anyL_take (i := 4) (v := ?vp50) rfl (by kernel_rfl) (by kernel_rfl) (by kernel_rfl) (by kernel_rfl) (fun _ _ _ h => h) (Or.inl ⟨by rfl, ?hp50⟩) (unhide HCF _ (unhide HF)) ?_
            case hp50 => (intro w hSw; (try dsimp only at hSw); go_simp) <;> with_reducible rfl
            simp only [Act.put, List.getElem_toArray, List.getElem_cons_zero, List.getElem_cons_succ, List.setIfInBounds_toArray, List.set_cons_zero, List.set_cons_succ]
            refine anyL_take (i := 5) (v := ?vp51) rfl (by kernel_rfl) (by kernel_rfl) (by kernel_rfl) (by kernel_rfl) (fun _ _ _ h => h) (Or.inl ⟨by rfl, ?hp51⟩) (unhide HCF _ (unhide HF)) ?_
            case hp51 => (intro w hSw; (try dsimp only at hSw); go_simp) <;> with_reducible rfl
            simp only [Act.put, List.getElem_toArray, List.getElem_cons_zero, List.getElem_cons_succ, List.setIfInBounds_toArray, List.set_cons_zero, List.set_cons_succ]
            refine anyL_take (i := 6) (v := ?vp52) rfl (by kernel_rfl) (by kernel_rfl) (by kernel_rfl) (by kernel_rfl) (fun _ _ _ h => h) (Or.inl ⟨by rfl, ?hp52⟩) (unhide HCF _ (unhide HF)) ?_
            case hp52 => (intro w hSw; (try dsimp only at hSw); go_simp) <;> with_reducible rfl
            simp only [Act.put, List.getElem_toArray, List.getElem_cons_zero, List.getElem_cons_succ, List.setIfInBounds_toArray, List.set_cons_zero, List.set_cons_succ]
            refine anyL_take (i := 7) (v := ?vp53) rfl (by kernel_rfl) (by kernel_rfl) (by kernel_rfl) (by kernel_rfl) (fun _ _ _ h => h) (Or.inl ⟨by rfl, ?hp53⟩) (unhide HCF _ (unhide HF)) ?_
            case hp53 => (intro w hSw; (try dsimp only at hSw); go_simp) <;> with_reducible rfl
            simp only [Act.put, List.getElem_toArray, List.getElem_cons_zero, List.getElem_cons_succ, List.setIfInBounds_toArray, List.set_cons_zero, List.set_cons_succ]
            refine anyL_take (i := 8) (v := ?vp54) rfl (by kernel_rfl) (by kernel_rfl) (by kernel_rfl) (by kernel_rfl) (fun _ _ _ h => h) (Or.inl ⟨by rfl, ?hp54⟩) (unhide HCF _ (unhide HF)) ?_
            case hp54 => (intro w hSw; (try dsimp only at hSw); go_simp) <;> with_reducible rfl
            simp only [Act.put, List.getElem_toArray, List.getElem_cons_zero, List.getElem_cons_succ, List.setIfInBounds_toArray, List.set_cons_zero, List.set_cons_succ]
            refine anyL_ready (rs := [9]) (by kernel_rfl) (by simp) ?_
            refine AllL.cons rfl (fun K hK => ?_) AllL.nil
            go_simp
            refine (unhide HC _ (unhide HF).d).mono ?_
            rintro y v3 ⟨rfl, bx⟩
            have HG := hide ((unhide HF).on bx)
            refine unhide hK _ _ (fun _ => unhide HCF _ (unhide HG)) ?_
            clear hK K bx HF
            refine anyL_take (i := 10) (v := ?vp55) rfl (by kernel_rfl) (by kernel_rfl) (by kernel_rfl) (by kernel_rfl) (fun _ _ _ h => h) (Or.inl ⟨by rfl, ?hp55⟩) (unhide HCF _ (unhide HG)) ?_
            case hp55 => (intro w hSw; (try dsimp only at hSw); go_simp) <;> with_reducible rfl
            simp only [Act.put, List.getElem_toArray, List.getElem_cons_zero, List.getElem_cons_succ, List.setIfInBounds_toArray, List.set_cons_zero, List.set_cons_succ]
            refine anyL_done (by kernel_rfl) ?_ _
            obtain ⟨cs0, cs1⟩ := cells2w (unhide HG).s
            have ce := (unhide HCF _ (unhide HG)).1
            clear HCF HC
            rcases Int.lt_trichotomy (cv : Int) col with hcv | hcv | hcv
            · have u1 : ((cv : Int) == col) = false := by simp; omega
              have u2 : decide ((cv : Int) < col) = true := decide_eq_true hcv
              have u3 : decide ((cv : Int) > col) = false := decide_eq_false (by omega)
              have u4 : decide (col < (cv : Int)) = false := decide_eq_false (by omega)
              have HI3 := hide ((unhide HI).low (unhide HIN) (by rw [unhide HCC]; exact hcv))
              rw [unhide HQ] at HI3
              clear HI hcv
              go_wp2_with fail
              go_roundw
              case rel => exact ⟨k + 1, _, ab, hlt, rfl, rfl, by go_num, ⟨_, rfl⟩, HI3, HG⟩
              case measure => simp [intOf]; omega
            · have u1 : ((cv : Int) == col) = true := by simpa using hcv
              obtain ⟨s1, s2⟩ := at_eq (unhide HX) (m := m) (col := col) (unhide HUU).1 (unhide HUU).2 hlt (unhide HIN) (by rw [unhide HCC]; exact hcv)
              have hV := unhide HV
              rw [s1] at hV
              simp only [show ¬ ((0 : Int) = 2) by decide, false_and, if_false, if_true] at hV
              rw [s2, unhide HQ] at hV
              have HV2 := hide hV
              have HDD := hide (unhide HG).d
              clear hV s1 s2 HI HV hcv HG
              go_wp2_with fail
              rw [(unhide HV2).1, (unhide HV2).2]
              refine bodyPost_ret (results_tmp2 rfl _ _ _) rfl ⟨rfl, unhide HDD⟩
            · have u1 : ((cv : Int) == col) = false := by simp; omega
              have u2 : decide ((cv : Int) < col) = false := decide_eq_false (by omega)
              have u3 : decide ((cv : Int) > col) = true := decide_eq_true hcv
              have u4 : decide (col < (cv : Int)) = true := decide_eq_true hcv
              have HI3 := hide ((unhide HI).high (unhide HIN) (by rw [unhide HCC]; exact hcv))
              rw [unhide HQ] at HI3
              clear HI hcv
              by_cases hab : ab < 0
              · have u5 : decide (ab < 0) = true := decide_eq_true hab
                rw [if_pos hab] at HI3
                clear hab
                go_wp2_with fail
                go_roundw
                case rel => exact ⟨k + 1, bl, _, hlt, rfl, rfl, by go_num, ⟨_, rfl⟩, HI3, HG⟩
                case measure => simp [intOf]; omega
              · have u5 : decide (ab < 0) = false := decide_eq_false hab
                rw [if_neg hab] at HI3
                clear hab
                go_wp2_with fail
                go_roundw
                case rel => exact ⟨k + 1, bl, _, hlt, rfl, rfl, by go_num, ⟨_, rfl⟩, HI3, HG⟩
                case measure => simp [intOf]; omega
          · have HC := hide (by have := unhide S2; rw [if_neg hcx] at this; exact this)
            clear S2
            have HCF : Hid (∀ X, AqS w gS gr gE (i : Int) col st ct nx (edN l) X → (X.cell? ⟨gE, k, none⟩ = some (.int .i64 (q : Int)) ∧ X.cell? ⟨gr, 0, none⟩ = some (.int .i64 (st : Int)))) := hide fun X h => by
              have c := h.e k hlt
              rw [unhide HQ] at c
              exact ⟨c, (cells3w h.r).1⟩
            refine regionL (S := fun w' => w'.cell? ⟨gE, k, none⟩ = some (.int .i64 (q : Int)) ∧ w'.cell? ⟨gr, 0, none⟩ = some (.int .i64 (st : Int))) (fun _ => false) (by kernel_rfl) ?_
            generalize v1.drew = v2 at *
            refine anyL_take (i := 0) (v := ?vn56) rfl (by kernel_rfl) (by kernel_rfl) (by kernel_rfl) (by kernel_rfl) (fun _ _ _ h => h) (Or.inl ⟨by rfl, ?hn56⟩) (unhide HCF _ (unhide HF)) ?_
            case hn56 => (intro w hSw; (try dsimp only at hSw); go_simp) <;> with_reducible rfl
            simp only [Act.put, List.getElem_toArray, List.getElem_cons_zero, List.setIfInBounds_toArray, List.set_cons_zero, List.set_cons_succ]
            refine anyL_take (i := 1) (v := ?vn57) rfl (by kernel_rfl) (by kernel_rfl) (by kernel_rfl) (by kernel_rfl) (fun _ _ _ h => h) (Or.inl ⟨by rfl, ?hn57⟩) (unhide HCF _ (unhide HF)) ?_
            case hn57 => (intro w hSw; (try dsimp only at hSw); go_simp) <;> with_reducible rfl
            simp only [Act.put, List.getElem_toArray, List.getElem_cons_zero, List.getElem_cons_succ, List.setIfInBounds_toArray, List.set_cons_zero, List.set_cons_succ]
            refine anyL_take (i := 2) (v := ?vn58) rfl (by kernel_rfl) (by kernel_rfl) (by kernel_rfl) (by kernel_rfl) (fun _ _ _ h => h) (Or.inl ⟨by rfl, ?hn58⟩) (unhide HCF _ (unhide HF)) ?_
            case hn58 => (intro w hSw; (try dsimp only at hSw); go_simp) <;> with_reducible rfl
            simp only [Act.put, List.getElem_toArray, List.getElem_cons_zero, List.getElem_cons_succ, List.setIfInBounds_toArray, List.set_cons_zero, List.set_cons_succ]
            refine anyL_take (i := 3) (v := ?vn59) rfl (by kernel_rfl) (by kernel_rfl) (by kernel_rfl) (by kernel_rfl) (fun _ _ _ h => h) (Or.inl ⟨by rfl, ?hn59⟩) (unhide HCF _ (unhide HF)) ?_
            case hn59 => (intro w hSw; (try dsimp only at hSw); go_simp) <;> with_reducible rfl
            simp only [Act.put, List.getElem_toArray, List.getElem_cons_zero, List.getElem_cons_succ, List.setIfInBounds_toArray, List.set_cons_zero, List.set_cons_succ]
            refine anyL_take (i := 4) (v := ?vn60) rfl (by kernel_rfl) (by kernel_rfl) (by kernel_rfl) (by kernel_rfl) (fun _ _ _ h => h) (Or.inl ⟨by rfl, ?hn60⟩) (unhide HCF _ (unhide HF)) ?_
            case hn60 => (intro w hSw; (try dsimp only at hSw); go_simp) <;> with_reducible rfl
            simp only [Act.put, List.getElem_toArray, List.getElem_cons_zero, List.getElem_cons_succ, List.setIfInBounds_toArray, List.set_cons_zero, List.set_cons_succ]
            refine anyL_take (i := 5) (v := ?vn61) rfl (by kernel_rfl) (by kernel_rfl) (by kernel_rfl) (by kernel_rfl) (fun _ _ _ h => h) (Or.inl ⟨by rfl, ?hn61⟩) (unhide HCF _ (unhide HF)) ?_
            case hn61 => (intro w hSw; (try dsimp only at hSw); go_simp) <;> with_reducible rfl
            simp only [Act.put, List.getElem_toArray, List.getElem_cons_zero, List.getElem_cons_succ, List.setIfInBounds_toArray, List.set_cons_zero, List.set_cons_succ]
            refine anyL_take (i := 6) (v := ?vn62) rfl (by kernel_rfl) (by kernel_rfl) (by kernel_rfl) (by kernel_rfl) (fun _ _ _ h => h) (Or.inl ⟨by rfl, ?hn62⟩) (unhide HCF _ (unhide HF)) ?_
            case hn62 => (intro w hSw; (try dsimp only at hSw); go_simp) <;> with_reducible rfl
            simp only [Act.put, List.getElem_toArray, List.getElem_cons_zero, List.getElem_cons_succ, List.setIfInBounds_toArray, List.set_cons_zero, List.set_cons_succ]
            refine anyL_take (i := 7) (v := ?vn63) rfl (by kernel_rfl) (by kernel_rfl) (by kernel_rfl) (by kernel_rfl) (fun _ _ _ h => h) (Or.inl ⟨by rfl, ?hn63⟩) (unhide HCF _ (unhide HF)) ?_
            case hn63 => (intro w hSw; (try dsimp only at hSw); go_simp) <;> with_reducible rfl
            simp only [Act.put, List.getElem_toArray, List.getElem_cons_zero, List.getElem_cons_succ, List.setIfInBounds_toArray, List.set_cons_zero, List.set_cons_succ]
            refine anyL_take (i := 8) (v := ?vn64) rfl (by kernel_rfl) (by kernel_rfl) (by kernel_rfl) (by kernel_rfl) (fun _ _ _ h => h) (Or.inl ⟨by rfl, ?hn64⟩) (unhide HCF _ (unhide HF)) ?_
            case hn64 => (intro w hSw; (try dsimp only at hSw); go_simp) <;> with_reducible rfl
            simp only [Act.put, List.getElem_toArray, List.getElem_cons_zero, List.getElem_cons_succ, List.setIfInBounds_toArray, List.set_cons_zero, List.set_cons_succ]
            refine anyL_ready (rs := [9]) (by kernel_rfl) (by simp) ?_
            refine AllL.cons rfl (fun K hK => ?_) AllL.nil
            go_simp
            refine (unhide HC _ (unhide HF).d).mono ?_
            rintro y v3 ⟨rfl, bx⟩
            have HG := hide ((unhide HF).on bx)
            refine unhide hK _ _ (fun _ => unhide HCF _ (unhide HG)) ?_
            clear hK K bx HF
            refine anyL_take (i := 10) (v := ?vn65) rfl (by kernel_rfl) (by kernel_rfl) (by kernel_rfl) (by kernel_rfl) (fun _ _ _ h => h) (Or.inl ⟨by rfl, ?hn65⟩) (unhide HCF _ (unhide HG)) ?_
            case hn65 => (intro w hSw; (try dsimp only at hSw); go_simp) <;> with_reducible rfl
            simp only [Act.put, List.getElem_toArray, List.getElem_cons_zero, List.getElem_cons_succ, List.setIfInBounds_toArray, List.set_cons_zero, List.set_cons_succ]
            refine anyL_done (by kernel_rfl) ?_ _
            obtain ⟨cs0, cs1⟩ := cells2w (unhide HG).s
            have ce := (unhide HCF _ (unhide HG)).1
            clear HCF HC
            rcases Int.lt_trichotomy (cv : Int) col with hcv | hcv | hcv
            · have u1 : ((cv : Int) == col) = false := by simp; omega
              have u2 : decide ((cv : Int) < col) = true := decide_eq_true hcv
              have u3 : decide ((cv : Int) > col) = false := decide_eq_false (by omega)
              have u4 : decide (col < (cv : Int)) = false := decide_eq_false (by omega)
              have HI3 := hide ((unhide HI).low (unhide HIN) (by rw [unhide HCC]; exact hcv))
              rw [unhide HQ] at HI3
              clear HI hcv
              go_wp2_with fail
              go_roundw
              case rel => exact ⟨k + 1, _, ab, hlt, rfl, rfl, by go_num, ⟨_, rfl⟩, HI3, HG⟩
              case measure => simp [intOf]; omega
            · have u1 : ((cv : Int) == col) = true := by simpa using hcv
              obtain ⟨s1, s2⟩ := at_eq (unhide HX) (m := m) (col := col) (unhide HUU).1 (unhide HUU).2 hlt (unhide HIN) (by rw [unhide HCC]; exact hcv)
              have hV := unhide HV
              rw [s1] at hV
              simp only [show ¬ ((0 : Int) = 2) by decide, false_and, if_false, if_true] at hV
              rw [s2, unhide HQ] at hV
              have HV2 := hide hV
              have HDD := hide (unhide HG).d
              clear hV s1 s2 HI HV hcv HG
              go_wp2_with fail
              rw [(unhide HV2).1, (unhide HV2).2]
              refine bodyPost_ret (results_tmp2 rfl _ _ _) rfl ⟨rfl, unhide HDD⟩
            · have u1 : ((cv : Int) == col) = false := by simp; omega
              have u2 : decide ((cv : Int) < col) = false := decide_eq_false (by omega)
              have u3 : decide ((cv : Int) > col) = true := decide_eq_true hcv
              have u4 : decide (col < (cv : Int)) = true := decide_eq_true hcv
              have HI3 := hide ((unhide HI).high (unhide HIN) (by rw [unhide HCC]; exact hcv))
              rw [unhide HQ] at HI3
              clear HI hcv
              by_cases hab : ab < 0
              · have u5 : decide (ab < 0) = true := decide_eq_true hab
                rw [if_pos hab] at HI3
                clear hab
                go_wp2_with fail
                go_roundw
                case rel => exact ⟨k + 1, bl, _, hlt, rfl, rfl, by go_num, ⟨_, rfl⟩, HI3, HG⟩
                case measure => simp [intOf]; omega
              · have u5 : decide (ab < 0) = false := decide_eq_false hab
                rw [if_neg hab] at HI3
                clear hab
                go_wp2_with fail
                go_roundw
                case rel => exact ⟨k + 1, bl, _, hlt, rfl, rfl, by go_num, ⟨_, rfl⟩, HI3, HG⟩
                case measure => simp [intOf]; omega
    · obtain rfl : k = (edN l).length := by omega
      have t1 : decide (((edN l).length : Int) < ((edN l).length : Int)) = false := decide_eq_false (by omega)
      obtain ⟨p0, p1, p2⟩ := cells3w (unhide HS).r
      have HD := hide (unhide HS).d
      clear HS
      by_cases hab : ab < 0
      · have t2 : decide (ab < 0) = true := decide_eq_true hab
        have hab1 : ab = -1 := by
          rcases (unhide HI).c with ⟨e, _⟩ | ⟨_, _, _, e, _⟩
          · exact e
          · omega
        subst hab1
        have hto := at_none (unhide HX) (m := m) (unhide HUU).1 (unhide HUU).2 (unhide HI)
        have hV := unhide HV
        rw [hto] at hV
        by_cases hm3 : m = 3
        · subst hm3
          rw [if_neg (by omega), if_neg (by omega), if_neg (by omega)] at hV
          have HV2 := hide hV
          clear hV hto HI HV
          go_wp2_with fail
          rw [(unhide HV2).1, (unhide HV2).2]
          refine bodyPost_ret (results_tmp2 rfl _ _ _) rfl ⟨rfl, unhide HD⟩
        · have t3 : (m == 3) = false := by simpa using hm3
          rw [if_pos ⟨rfl, hm3⟩, if_pos ⟨rfl, hm3⟩] at hV
          have HV2 := hide hV
          clear hV hto HI HV hm3
          go_wp2_with fail
          rw [(unhide HV2).1, (unhide HV2).2]
          refine bodyPost_ret (results_tmp2 rfl _ _ _) rfl ⟨rfl, unhide HD⟩
      · have t2 : decide (ab < 0) = false := decide_eq_false hab
        obtain ⟨s1, s2, s3⟩ := at_some (unhide HX) (m := m) (unhide HUU).1 (unhide HUU).2 hc0 hab (unhide HI)
        have hV := unhide HV
        rw [s1] at hV
        rcases (unhide HRM).2 with rfl | rfl | rfl
        · have e1 := s2 rfl
          simp only [show ¬ ((1 : Int) = 3) by decide, if_false, show ¬ ((0 : Int) = 2) by decide, false_and, if_true] at hV
          have HV2 : Hid (atR l (i : Int) col r 1 = 0 ∧ (atP l (i : Int) col r 1 : Int) = bl) := hide ⟨hV.1, by rw [hV.2, e1]; simp⟩
          clear hV e1 s1 s2 s3 HI HV
          go_wp2_with fail
          rw [(unhide HV2).1, (unhide HV2).2]
          refine bodyPost_ret (results_tmp2 rfl _ _ _) rfl ⟨rfl, unhide HD⟩
        · have e1 := s3 rfl
          simp only [show ¬ ((2 : Int) = 3) by decide, if_false, show ¬ ((0 : Int) = 2) by decide, false_and, if_true] at hV
          have HV2 : Hid (atR l (i : Int) col r 2 = 0 ∧ (atP l (i : Int) col r 2 : Int) = ab) := hide ⟨hV.1, by rw [hV.2, e1]; simp⟩
          clear hV e1 s1 s2 s3 HI HV
          go_wp2_with fail
          rw [(unhide HV2).1, (unhide HV2).2]
          refine bodyPost_ret (results_tmp2 rfl _ _ _) rfl ⟨rfl, unhide HD⟩
        · simp only [if_true, show ¬ ((4 : Int) = 2) by decide, show ¬ ((4 : Int) = 0) by decide, false_and, if_false] at hV
          have HV2 := hide hV
          clear hV s1 s2 s3 HI HV
          go_wp2_with fail
          rw [(unhide HV2).1, (unhide HV2).2]
          refine bodyPost_ret (results_tmp2 rfl _ _ _) rfl ⟨rfl, unhide HD⟩
end
end Go.Proofs.YteamaneompijkaaGreatDoor
