/- Layer 3: the document's answer: add, To, ToExact. -/
import Derived.Test.YtlfcplipnmclhaaDoorWak
import Derived.Test.YtlfcplipnmclhaaDoorRf2T
import Derived.Deep.RegionHeldLaw
namespace Go.Proofs.YtlfcplipnmclhaaDoor
open Go.ChangeShapes Go.WideShapes Go.ChangeAt Go.RowKit

theorem OwnU.alloc {w : World} {B : Nat} {v : Value} {l : List Int} (h : OwnU w B v l) (o : Obj) : OwnU (w.alloc o) B v l := World.ownsRow.alloc h o

set_option maxHeartbeats 400000 in
theorem add_at (B : Nat) (v : Value) (us : List Int) (r : Int) (wd : Int) (wh : Bool) (x : Int) (w : World) (h : OwnU w B v us) (hr : isRune r = true) (hn : us.length ≤ 4194304) (hB : B ≤ w.heap.size) :
    Calls Tryd.prog 36 #[v, .agg #[.int .i32 r, .int .i64 wd, .bool wh], .int .u16 x] w fun e w' => ∃ v', e = .returned v' ∧ OwnU w' B v' (us ++ if wh then uni r else [x]) ∧ Below B w w' := by
  have h' : 0 ≤ r ∧ r < 55296 ∨ 57343 < r ∧ r ≤ 1114111 := of_decide_eq_true hr
  have d0 := (Below.refl B w).alloc hB (.cells #[.int .i32 r, .int .i64 wd, .bool wh] 45)
  have z0 : B ≤ (w.alloc (.cells #[.int .i32 r, .int .i64 wd, .bool wh] 45)).heap.size := Nat.le_trans hB d0.size
  have o0 := h.alloc (.cells #[.int .i32 r, .int .i64 wd, .bool wh] 45)
  cases wh with
  | false =>
    obtain ⟨v1, w1, r1, o1, b1, _⟩ := push_u16 _ B v us x 31 o0 (by omega) z0
    rw [World.size_alloc] at r1
    have R1 := hide r1
    clear r1
    go_enter Tryd.func36, Tryd.ntmps36
    go_wp2_with (at_builtin; refine wpList_append_known rfl _ _ 31 31 rfl _ _ rfl rfl _ _ (unhide R1) ?_)
    go_ret
    exact ⟨_, rfl, o1, d0.trans b1⟩
  | true =>
    cases h2 : two r with
    | true =>
      rw [if_pos rfl, uni, if_pos h2]
      have hs : ∀ w, _ := fun w => RSplit_any r w (by omega) (by omega)
      rw [splitV, if_pos h2] at hs
      have HS := hide hs
      obtain ⟨v1, w1, r1, o1, b1, _⟩ := push_u16 _ B v us (hiU r) 31 o0 (by omega) z0
      rw [World.size_alloc] at r1
      obtain ⟨v2, w2, r2, o2, b2, _⟩ := push_u16 w1 B v1 (us ++ [hiU r]) (loU r) 31 o1 (by simp; omega) (Nat.le_trans z0 b1.size)
      have R1 := hide r1
      have R2 := hide r2
      clear r1 r2 hs
      go_enter Tryd.func36, Tryd.ntmps36
      go_wp2_with (first
        | (go_at_call 11; refine (unhide HS _).mono ?_; rintro e w' ⟨rfl, rfl⟩)
        | (at_builtin; refine wpList_append_known rfl _ _ 31 31 rfl _ _ rfl rfl _ _ (unhide R1) ?_)
        | (at_builtin; refine wpList_append_known rfl _ _ 31 31 rfl _ _ rfl rfl _ _ (unhide R2) ?_))
      go_ret
      exact ⟨_, rfl, by simpa using o2, (d0.trans b1).trans b2⟩
    | false =>
      have h3 : ¬ (65536 ≤ r ∧ r ≤ 1114111) := of_decide_eq_false h2
      rw [if_pos rfl, uni, if_neg (by simp [h2])]
      have hs : ∀ w, _ := fun w => RSplit_any r w (by omega) (by omega)
      rw [splitV, if_neg (by simp [h2])] at hs
      have HS := hide hs
      obtain ⟨v1, w1, r1, o1, b1, _⟩ := push_u16 _ B v us r 31 o0 (by omega) z0
      rw [World.size_alloc] at r1
      have R1 := hide r1
      have hw : IntKind.u16.wrap r = r := by rw [IntKind.wrap_u16]; omega
      clear r1 hs
      go_enter Tryd.func36, Tryd.ntmps36
      go_wp2_with (first
        | (go_at_call 11; refine (unhide HS _).mono ?_; rintro e w' ⟨rfl, rfl⟩)
        | (at_builtin; refine wpList_append_known rfl _ _ 31 31 rfl _ _ rfl rfl _ _ (unhide R1) ?_))
      go_ret
      exact ⟨_, rfl, o1, d0.trans b1⟩

/-- the units of a step that one sees -/
theorem seen_step {l : List Int} {p : Nat} : (if whl (l.drop p) then uni (first (l.drop p)).1 else [65533]) = uni (first (l.drop p)).1 := by
  split
  · rfl
  · rename_i h
    have h0 : lng (l.drop p) = 0 := by simpa [whl] using h
    rw [first_bad h0]
    rfl
def toP (l : List Int) (ps : List Nat) : List Int := ps.flatMap fun p => uni (first (l.drop p)).1
theorem toL_toP (l : List Int) : toL l = toP l (spots l 0) := by simp [toL, toP, runesL, List.flatMap_map]
theorem toP_len (l : List Int) : ∀ ps : List Nat, (toP l ps).length ≤ 2 * ps.length
  | [] => by simp [toP]
  | p :: ps => by
    have h1 := toP_len l ps
    have h2 := (uni_len (first (l.drop p)).1).1
    rw [show toP l (p :: ps) = uni (first (l.drop p)).1 ++ toP l ps by simp [toP], List.length_append, List.length_cons]
    omega
theorem toP_snoc (l : List Int) (ps : List Nat) (p : Nat) : toP l (ps ++ [p]) = toP l ps ++ uni (first (l.drop p)).1 := by simp [toP]
theorem take_snoc {ps : List Nat} {k : Nat} (hk : k < ps.length) : ps.take (k + 1) = ps.take k ++ [ps.getD k 0] := by
  rw [List.take_succ_eq_append_getElem hk]
  simp [List.getD, List.getElem?_eq_getElem hk]
theorem getD_memN {ps : List Nat} {k : Nat} (hk : k < ps.length) : ps.getD k 0 ∈ ps := by
  simp [List.getD, List.getElem?_eq_getElem hk]

set_option maxHeartbeats 1000000 in
theorem RTo_at (a0 : Option Addr) (cap : Nat) (l : List Int) (w : World) (hB : IsB w a0 cap l) (hl : l.length ≤ 1048576) :
    Calls Tryd.prog 19 #[.slice a0 l.length cap] w fun e w' => ∃ v, e = .returned v ∧ OwnU w' w.heap.size v (toL l) ∧ Below w.heap.size w w' := by
  have hsl := spots_le l
  have HLB := hide hB.2.2.2
  rw [toL_toP]
  go_enter Tryd.func19, Tryd.ntmps19
  go_wp2_with fail
  refine (Steps_at a0 cap l w hB hl).mono ?_
  rintro e w1 ⟨aw, cw, rfl, kw, jw, x1⟩
  generalize hn : (spots l 0).length = n at *
  have HN := hide hn
  clear hn hB
  have s1 := x1.size
  go_wp2_with fail
  go_loopw [3, 5] (fun v i wx => ∃ k : Nat, k ≤ n ∧ i = .int .i64 k ∧ Hid (OwnU wx w1.heap.size v (toP l ((spots l 0).take k))) ∧ Below w1.heap.size w1 wx) (fun _ i _ => n - (intOf i).toNat)
  case atStart => exact ⟨0, Nat.zero_le _, rfl, hide (World.ownsRow_nil _ _ _ _), Below.refl _ _⟩
  case round =>
    obtain ⟨k, hk, rfl, ho, hb⟩ := hrel
    by_cases hlt : k < n
    · have hkl : k < (spots l 0).length := by rw [unhide HN]; exact hlt
      obtain ⟨g, rfl, c0, c1, c2⟩ : ∃ g, aw = some ⟨g, 0, none⟩ ∧ wr.cell? ⟨g, k * 3, none⟩ = some (.int .i32 (first (l.drop ((spots l 0).getD k 0))).1) ∧ wr.cell? ⟨g, k * 3 + 1, none⟩ = some (.int .i64 (wid (l.drop ((spots l 0).getD k 0)))) ∧ wr.cell? ⟨g, k * 3 + 2, none⟩ = some (.bool (whl (l.drop ((spots l 0).getD k 0)))) := by
        rcases jw.below hb (Nat.le_refl _) with h | ⟨g, h1, _, h3⟩
        · rw [h] at hkl; simp at hkl
        · exact ⟨g, h1, h3 k hkl⟩
      have HRU := hide (rune_step (unhide HLB) (runesL_rune (unhide HLB) l.length 0 (by omega) _ (getD_memN hkl)))
      have HF : Hid (toP l ((spots l 0).take (k + 1)) = toP l ((spots l 0).take k) ++ if whl (l.drop ((spots l 0).getD k 0)) then uni (first (l.drop ((spots l 0).getD k 0))).1 else [65533]) := hide (by rw [take_snoc hkl, toP_snoc, seen_step])
      have hfl := toP_len l ((spots l 0).take k)
      rw [List.length_take] at hfl
      generalize (spots l 0).getD k 0 = q at *
      generalize (first (l.drop q)).1 = r at *
      generalize wid (l.drop q) = wd at *
      generalize whl (l.drop q) = wh at *
      have hsz := hb.size
      go_wp2_with fail
      refine (add_at w1.heap.size _ _ r wd wh 65533 wr (unhide ho) (unhide HRU) (by omega) hsz).mono ?_
      rintro e w3 ⟨v3, rfl, o3, b3⟩
      go_wp2
      go_roundw
      case rel => exact ⟨k + 1, by omega, by go_num, by rw [unhide HF]; exact hide o3, hb.trans b3⟩
      case measure => simp [intOf]; omega
    · obtain rfl : k = n := by omega
      have ho' := unhide ho
      rw [List.take_of_length_le (by rw [unhide HN]; omega)] at ho'
      clear ho
      go_wp2
      go_ret
      exact ⟨_, rfl, ho'.mono s1, x1.trans (hb.mono s1)⟩

end Go.Proofs.YtlfcplipnmclhaaDoor
