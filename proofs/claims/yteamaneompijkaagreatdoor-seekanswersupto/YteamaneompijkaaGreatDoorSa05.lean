/- What is broken off: End. · Contracts of step.isPlace, At, Before, Edge, Floor, Ceil: each of any bytes at any place. · Contracts of strings.HasPrefix at the stand-in's own encoding, and of step.told. · The steps' places, one behind the other; ranging over a string whose block lies anywhere; contract of step.Valid. -/
import Derived.Test.YteamaneompijkaaGreatDoorSa04
import Derived.Test.YteamaneompijkaaGreatDoorSa03
import Derived.Test.YteamaneompijkaaGreatDoorSa01
import Derived.Laws.RangeAny
import Derived.RangeFuncRecord
namespace Go.Proofs.YteamaneompijkaaGreatDoor
open Go.ChangeShapes Go.WideShapes Go.ChangeAt Go.RowKit
set_option maxRecDepth 100000
set_option maxHeartbeats 8000000
section
abbrev Tri := Int × Nat × Bool
def tc (t : Tri) : List Value := [.int .i32 t.1, .int .i64 t.2.1, .bool t.2.2]
def tcs (ts : List Tri) : List Value := ts.flatMap tc
def badT : Tri := (65533, 1, false)
def RT (B : Nat) (v : Value) (ts : List Tri) (W : World) : Prop := W.ownsRow B 82 3 v ts.length (tcs ts)
theorem RT.nil (B : Nat) (W : World) : RT B (.slice none 0 0) [] W := World.ownsRow_nil _ _ _ _
theorem RT.below {B : Nat} {v : Value} {ts : List Tri} {W W' : World} (h : RT B v ts W) (hb : Below W.heap.size W W') : RT B v ts W' := own_bl h hb
theorem RT.push {B : Nat} {v : Value} {ts : List Tri} {W : World} (h : RT B v ts W) (r : Int) (n : Nat) (b : Bool) (hn : ts.length ≤ 4194304) (hB : B ≤ W.heap.size) :
    ∃ g k W', (Builtin.append_ #[57, 57] 57 #[v, .slice (some ⟨W.heap.size, 0, none⟩) 1 1]).run Tryz.prog (W.alloc (.cells #[.int .i32 r, .int .i64 (n : Int), .bool b] 82)) = .ok (.slice (some ⟨g, 0, none⟩) (ts.length + 1) k) W' ∧
      RT B (.slice (some ⟨g, 0, none⟩) (ts.length + 1) k) (ts ++ [(r, n, b)]) W' ∧ Below B W W' := by
  obtain ⟨g, k, W', h1, h2, h3⟩ := push_st W B ts.length v (tcs ts) (.int .i32 r) (.int .i64 (n : Int)) (.bool b) 57 h hn hB rfl rfl rfl
  exact ⟨g, k, W', h1, by simpa [RT, tcs, tc] using h2, h3⟩
theorem RT.pushb {B : Nat} {v : Value} {ts : List Tri} {W : World} (h : RT B v ts W) (hn : ts.length ≤ 4194304) (hB : B ≤ W.heap.size) :
    ∃ g k W', (Builtin.append_ #[57, 57] 57 #[v, .slice (some ⟨W.heap.size, 0, none⟩) 1 1]).run Tryz.prog (W.alloc (.cells #[.int .i32 65533, .int .i64 1, .bool false] 82)) = .ok (.slice (some ⟨g, 0, none⟩) (ts.length + 1) k) W' ∧
      RT B (.slice (some ⟨g, 0, none⟩) (ts.length + 1) k) (ts ++ [badT]) W' ∧ Below B W W' := h.push 65533 1 false hn hB
theorem RT.same {B : Nat} {v : Value} {ts : List Tri} {W W' : World} (h : RT B v ts W) (hb : ∀ k, B ≤ k → k < W.heap.size → W'.heap[k]? = W.heap[k]?) : RT B v ts W' := by
  refine ⟨h.1, ?_⟩
  rcases h.2 with hn | ⟨g, cap, cur, rfl, hB, hgg, rest⟩
  · exact .inl hn
  · exact .inr ⟨g, cap, cur, rfl, hB, (hb g hB (Array.getElem?_eq_some_iff.1 hgg).1).trans hgg, rest⟩
theorem own_set {B g o : Nat} {v x : Value} {ts : List Tri} {W : World} (h : RT B v ts W) (hg : g < B) : RT B v ts (W.setCell ⟨g, o, none⟩ x) := h.same fun k hk _ => by
  simp only [World.setCell]
  rw [Array.getElem?_modify, if_neg (by show ¬ g = k; omega)]
theorem breakOff_at (g B : Nat) (h : List Int) (fed : Int) (v : Value) (ts : List Tri) (w : World) (hS : Sca w g h fed) (hR : RT B v ts w) (hB : B ≤ w.heap.size) (hgB : g < B) (hn : ts.length ≤ 4194000) :
    Calls Tryz.prog 146 #[.pointer (some ⟨g, 0, none⟩), v] w fun e w' => ∃ v', e = .returned v' ∧ RT B v' (ts ++ List.replicate h.length badT) w' ∧ Sca w' g [] fed ∧ Scf B g w w' := by
  have hle := hS.2.1
  have hc := hS.2.2.2.2.2.1
  have HS := hide hS
  clear hS
  generalize hm : h.length = m at *
  have HM := hide hm
  clear hm
  go_enter Tryz.func146, Tryz.ntmps146
  go_wp2_with fail
  go_loopw [1, 9] (fun u i wx => ∃ (k : Nat), k ≤ m ∧ i = .int .i64 k ∧ Hid (RT B u (ts ++ List.replicate k badT) wx) ∧ Below B w wx) (fun _ i _ => m - (intOf i).toNat)
  case atStart => exact ⟨0, Nat.zero_le _, rfl, by simpa using hide hR, Below.refl _ _⟩
  case round =>
    obtain ⟨k, hk, rfl, ho, hb⟩ := hrel
    by_cases hlt : k < m
    · go_wp2_with fail
      refine (sbad_any _).mono ?_
      unfold stepV
      rintro e w2 ⟨rfl, x2⟩
      have hb2 := hb.trans (x2.mono (Nat.le_trans hB hb.size))
      have hl2 : (ts ++ List.replicate k badT).length = ts.length + k := by simp
      obtain ⟨g3, c3, w3, r3, o3, x3⟩ := ((unhide ho).below x2).pushb (by rw [hl2]; omega) (Nat.le_trans hB hb2.size)
      have R3 := hide r3
      clear r3
      go_wp2_with (at_builtin; refine wpList_append_known rfl _ _ 57 57 rfl _ _ rfl rfl _ _ (unhide R3) ?_)
      go_roundw
      case rel => exact ⟨k + 1, by omega, by go_num, hide (by rw [List.replicate_succ', ← List.append_assoc, ← hl2]; exact o3), hb2.trans x3⟩
      case measure => simp [intOf]; omega
    · obtain rfl : k = m := by omega
      have hSx := (unhide HS).below hb hgB
      have hcx := hSx.2.2.2.2.2.1
      have hfx := hSx.2.2.2.1 3 (by omega)
      have HX := hide hSx
      clear hSx
      go_wp2_with fail
      go_ret
      refine ⟨_, rfl, ?_, (unhide HX).gone, (Scf.of hb).set _ _⟩
      exact own_set (unhide ho) hgB
end
section
theorem flr_inside (l : List Int) (p : Nat) : (flr l p = p) = (inside l p = false) := by
  unfold flr inside
  by_cases h1 : 1 ≤ p ∧ 1 < lng (l.drop (p - 1))
  · rw [if_pos h1]
    simp only [decide_eq_true h1.1, decide_eq_true h1.2, Bool.and_self, Bool.true_or]
    simp; omega
  · rw [if_neg h1]
    by_cases h2 : 2 ≤ p ∧ 2 < lng (l.drop (p - 2))
    · rw [if_pos h2]
      simp only [decide_eq_true h2.1, decide_eq_true h2.2, Bool.and_self, Bool.true_or, Bool.or_true]
      simp; omega
    · rw [if_neg h2]
      by_cases h3 : 3 ≤ p ∧ 3 < lng (l.drop (p - 3))
      · rw [if_pos h3]
        simp only [decide_eq_true h3.1, decide_eq_true h3.2, Bool.and_self, Bool.or_true]
        simp; omega
      · rw [if_neg h3]
        refine propext ⟨fun _ => ?_, fun _ => rfl⟩
        simp only [Bool.or_eq_false_iff, ← Bool.decide_and, decide_eq_false_iff_not]
        exact ⟨h1, h2, h3⟩
theorem flr_le (l : List Int) (p : Nat) : flr l p ≤ p := by
  unfold flr
  repeat' split
  all_goals omega
theorem flr_ne {l : List Int} {p : Nat} (h : inside l p = true) : ¬ flr l p = p := by rw [flr_inside, h]; simp
theorem flr_eq {l : List Int} {p : Nat} (h : inside l p = false) : flr l p = p := by rw [flr_inside]; exact h
theorem flr_over {l : List Int} {p : Nat} (h : inside l p = true) : flr l p < p ∧ p < flr l p + lng (l.drop (flr l p)) := by
  have hne := flr_ne h
  unfold flr at hne ⊢
  by_cases h1 : 1 ≤ p ∧ 1 < lng (l.drop (p - 1))
  · rw [if_pos h1]; omega
  · rw [if_neg h1] at hne ⊢
    by_cases h2 : 2 ≤ p ∧ 2 < lng (l.drop (p - 2))
    · rw [if_pos h2]; omega
    · rw [if_neg h2] at hne ⊢
      by_cases h3 : 3 ≤ p ∧ 3 < lng (l.drop (p - 3))
      · rw [if_pos h3]; omega
      · rw [if_neg h3] at hne; exact absurd rfl hne
theorem flr_wid {l : List Int} {p : Nat} (h : inside l p = true) : flr l p < p ∧ p < flr l p + wid (l.drop (flr l p)) := by
  obtain ⟨h1, h2⟩ := flr_over h
  refine ⟨h1, ?_⟩
  have := wid_gt (l := l.drop (flr l p)) (k := p - flr l p) (by omega)
  have h3 : p - flr l p < wid (l.drop (flr l p)) := by rw [this]; omega
  omega
theorem flr_edge (l : List Int) (p : Nat) : inside l (flr l p) = false := by
  cases h : inside l p with
  | false => rw [flr_eq h]; exact h
  | true =>
    obtain ⟨h1, h2⟩ := flr_over h
    rw [← Bool.not_eq_true, inside_iff]
    rintro ⟨q, hq, hq2⟩
    have := lng_cross (l := l) hq hq2
    omega
def zeroV : Value := stepV 0 0 false
def atV (l : List Int) (p : Int) : Value :=
  if p < 0 ∨ (l.length : Int) ≤ p then .tuple #[zeroV, .int .i64 2] else if inside l p.toNat then .tuple #[zeroV, .int .i64 4] else .tuple #[stp (l.drop p.toNat), .int .i64 0]
def beforeV (l : List Int) (p : Int) : Value :=
  if p < 1 ∨ (l.length : Int) < p then .tuple #[zeroV, .int .i64 2] else if inside l p.toNat then .tuple #[zeroV, .int .i64 4] else .tuple #[stp (l.drop (flr l (p.toNat - 1))), .int .i64 0]
def floorV (l : List Int) (p : Int) : Value := if p < 0 ∨ (l.length : Int) < p then .tuple #[.int .i64 0, .int .i64 2] else .tuple #[.int .i64 (flr l p.toNat), .int .i64 0]
theorem isPlace_any (a0 : Option Addr) (cap n : Nat) (p : Int) (w : World) :
    Calls Tryz.prog 68 #[.slice a0 n cap, .int .i64 p] w fun e w' => e = .returned (.bool (decide (0 ≤ p ∧ p ≤ (n : Int)))) ∧ w' = w := by
  by_cases h0 : 0 ≤ p
  · have e : decide (0 ≤ p ∧ p ≤ (n : Int)) = decide (p ≤ (n : Int)) := by simp [h0]
    rw [e]
    have d0 : decide (0 ≤ p) = true := decide_eq_true h0
    go_enter Tryz.func68, Tryz.ntmps68
    go_wp2
    all_goals go_ret
    all_goals exact ⟨rfl, rfl⟩
  · have e : decide (0 ≤ p ∧ p ≤ (n : Int)) = false := by simp; omega
    rw [e]
    have d0 : decide (0 ≤ p) = false := decide_eq_false h0
    go_enter Tryz.func68, Tryz.ntmps68
    go_wp2
    all_goals go_ret
    all_goals exact ⟨rfl, rfl⟩
theorem isPlace_at (a0 : Option Addr) (cap n : Nat) (p : Int) {v : Bool} (w : World) (h : decide (0 ≤ p ∧ p ≤ (n : Int)) = v) :
    Calls Tryz.prog 68 #[.slice a0 n cap, .int .i64 p] w fun e w' => e = .returned (.bool v) ∧ w' = w := by
  subst h
  exact isPlace_any a0 cap n p w
theorem Floor_at (a0 : Option Addr) (cap : Nat) (p : Int) (l : List Int) (w : World) (hB : IsB w a0 cap l) (hT : Tab w) :
    Calls Tryz.prog 35 #[.slice a0 l.length cap, .int .i64 p] w fun e w' => e = .returned (floorV l p) ∧ Below w.heap.size w w' := by
  cases hp : decide (0 ≤ p ∧ p ≤ (l.length : Int)) with
  | false =>
    have e : floorV l p = .tuple #[.int .i64 0, .int .i64 2] := by have := of_decide_eq_false hp; rw [floorV, if_pos (by omega)]
    rw [e]
    have HP := hide hp
    clear hp
    go_enter Tryz.func35, Tryz.ntmps35
    go_wp2_with (go_at_call 68; refine (isPlace_at a0 cap l.length p w (unhide HP)).mono ?_; rintro e w' ⟨rfl, rfl⟩)
    go_ret2
    exact ⟨rfl, Below.refl _ _⟩
  | true =>
    have hp' := of_decide_eq_true hp
    have e : floorV l p = .tuple #[.int .i64 (flr l p.toNat), .int .i64 0] := by rw [floorV, if_neg (by omega)]
    rw [e]
    obtain ⟨n, rfl⟩ : ∃ n : Nat, p = n := ⟨p.toNat, by omega⟩
    have HP := hide hp
    clear hp
    have hn : n ≤ l.length := by omega
    rw [Int.toNat_natCast]
    clear hp'
    go_enter Tryz.func35, Tryz.ntmps35
    go_wp2_with (first
      | (go_at_call 68; refine (isPlace_at a0 cap l.length _ w (unhide HP)).mono ?_; rintro e w' ⟨rfl, rfl⟩)
      | (go_at_call 69; refine (floor_at a0 cap n l _ hn hB hT).mono ?_; rintro e w' ⟨rfl, hb⟩))
    go_ret2
    exact ⟨rfl, hb⟩
theorem At_at (a0 : Option Addr) (cap : Nat) (p : Int) (l : List Int) (w : World) (hB : IsB w a0 cap l) (hT : Tab w) :
    Calls Tryz.prog 36 #[.slice a0 l.length cap, .int .i64 p] w fun e w' => e = .returned (atV l p) ∧ Below w.heap.size w w' := by
  by_cases hp : p < 0 ∨ (l.length : Int) ≤ p
  · rw [show atV l p = .tuple #[zeroV, .int .i64 2] by rw [atV, if_pos hp]]
    by_cases h0 : p < 0
    · have d0 : decide (p < 0) = true := decide_eq_true h0
      clear hp
      go_enter Tryz.func36, Tryz.ntmps36
      go_wp2
      exact bodyPost_ret (v := .tuple #[zeroV, .int .i64 2]) (by simp [results, Tryz.results36, go_sem, zeroV, stepV]) rfl ⟨rfl, (Below.refl _ _).alloc (Nat.le_refl _) _⟩
    · have d0 : decide (p < 0) = false := decide_eq_false h0
      have h1 : (l.length : Int) ≤ p := by omega
      clear hp
      go_enter Tryz.func36, Tryz.ntmps36
      go_wp2
      exact bodyPost_ret (v := .tuple #[zeroV, .int .i64 2]) (by simp [results, Tryz.results36, go_sem, zeroV, stepV]) rfl ⟨rfl, (Below.refl _ _).alloc (Nat.le_refl _) _⟩
  · obtain ⟨n, rfl⟩ : ∃ n : Nat, p = n := ⟨p.toNat, by omega⟩
    have hn : n < l.length := by omega
    have h1 : ¬ (l.length : Int) ≤ (n : Int) := by omega
    have d0 : decide ((n : Int) < 0) = false := decide_eq_false (by omega)
    have hBn := hB.below ((Below.refl _ w).alloc (Nat.le_refl _) (.cells #[.int .i32 0, .int .i64 0, .bool false] 82)) (Nat.le_refl _)
    cases hi : inside l n with
    | true =>
      rw [show atV l n = .tuple #[zeroV, .int .i64 4] by rw [atV, if_neg hp, Int.toNat_natCast, hi]; rfl]
      have hne : ((flr l n : Int) != (n : Int)) = true := by have := flr_ne hi; simp; omega
      clear hp hi
      go_enter Tryz.func36, Tryz.ntmps36
      go_wp2_with (go_at_call 69; refine (floor_at a0 cap n l _ (by omega) hBn (hT.alloc _)).mono ?_; rintro e w' ⟨rfl, hb⟩; obtain ⟨hc1, hf1⟩ := bcell hb)
      refine bodyPost_ret (v := .tuple #[zeroV, .int .i64 4]) (by simp [results, Tryz.results36, go_sem, zeroV, stepV, hc1]) rfl ⟨rfl, ?_⟩
      exact stores3 (((Below.refl _ w).alloc (Nat.le_refl _) _).trans (hb.mono (by simp))) (Nat.le_refl _) _ _ _
    | false =>
      rw [show atV l n = .tuple #[stp (l.drop n), .int .i64 0] by rw [atV, if_neg hp, Int.toNat_natCast, hi]; rfl]
      have hne : ((flr l n : Int) != (n : Int)) = false := by have := flr_eq hi; simp [this]
      have hB' := hB
      obtain ⟨b1, b2, b3, _⟩ := hB
      obtain ⟨g, off, rfl, hL, hg⟩ := b3.lies (by omega)
      have hnc : ¬ cap = n := by omega
      have hnc2 : n ≤ cap := by omega
      have hm : l.length ≤ maxLen := by unfold maxLen; omega
      clear hp hi
      go_enter Tryz.func36, Tryz.ntmps36
      go_wp2_with (first
        | (go_at_call 69; refine (floor_at _ cap n l _ (by omega) hBn (hT.alloc _)).mono ?_; rintro e w' ⟨rfl, hb⟩; obtain ⟨hc1, hf1⟩ := bcell hb; have hz1 : w.heap.size < w'.heap.size := by have := hb.size; simp at this; omega)
        | (go_at_call 70; refine (first_from g off cap n l _ hn hm b1 (hL.below (((Below.refl _ w).alloc (Nat.le_refl _) _).trans (hb.mono (by simp))) hg) (hT.below (((Below.refl _ w).alloc (Nat.le_refl _) _).trans (hb.mono (by simp))) hT.size)).mono ?_
           unfold stp stepV; rintro e w'' ⟨rfl, hb2⟩; obtain ⟨hc2, hf2⟩ := bcell hb2))
      refine bodyPost_ret (v := .tuple #[stp (l.drop n), .int .i64 0]) (by simp [results, Tryz.results36, go_sem, stp, stepV, hc1, hc2, hz1]) rfl ⟨rfl, ?_⟩
      exact stores3 ((((Below.refl _ w).alloc (Nat.le_refl _) _).trans (hb.mono (by simp))).trans (hb2.mono (by omega))) (Nat.le_refl _) _ _ _
end
section
theorem str_extract (l : List Int) (i j : Nat) : (strOfNums l).extract i j = strOfNums ((l.drop i).take (j - i)) := by
  apply ByteArray.ext
  rw [ByteArray.data_extract]
  simp only [strOfNums]
  apply Array.ext'
  rw [Array.toList_extract]
  simp [List.extract, List.map_drop, List.map_take]
theorem fffd_lng {m : List Int} (h : m.take 3 = [239, 191, 189]) : lng m = 3 ∧ (first m).1 = 65533 := by
  match m with
  | [] => cases h
  | [_] => cases h
  | [_, _] => cases h
  | a :: b :: c :: t =>
    simp only [List.take_succ_cons, List.take_zero, List.cons.injEq, and_true] at h
    obtain ⟨rfl, rfl, rfl⟩ := h
    exact ⟨by simp [lng, need, whole, sec, isTail], by simp [first, need, whole, sec, isTail, value, fold, lead]⟩
theorem lng_fffd {m : List Int} (hm : ∀ x ∈ m, 0 ≤ x ∧ x ≤ 255) (h : lng m ≠ 0) (hr : (first m).1 = 65533) : m.take 3 = [239, 191, 189] := by
  match m with
  | [] => simp [lng] at h
  | a :: r =>
    simp only [lng] at h
    split at h
    · rename_i hw
      simp only [first, if_pos hw] at hr
      have he := enc_value hw (fun x hx => hm x (List.mem_of_mem_take hx))
      rw [hr, enc_3 (by decide) (by decide) (by decide)] at he
      have hn : (need a).toNat = 3 ∨ ¬ (need a).toNat = 3 := by omega
      have hl := congrArg List.length he
      have h4 := need_hi a
      simp only [List.length_take, List.length_cons, List.length_nil] at hl
      have e3 : ((a :: r).take (need a).toNat).take 3 = (a :: r).take 3 := by rw [List.take_take, show min 3 (need a).toNat = 3 by omega]
      rw [← e3, ← he]
      decide
    · exact absurd rfl h
theorem str_fffd {l : List Int} (hl : ∀ x ∈ l, 0 ≤ x ∧ x ≤ 255) : ((strOfNums l).toList == ([239, 191, 189] : List UInt8)) = decide (l = [239, 191, 189]) := by
  have h := str_beq (m := [239, 191, 189]) hl (by decide)
  rw [Lib.strOfNums_toList, Lib.strOfNums_toList] at h
  rw [Lib.strOfNums_toList]
  exact h
theorem HasPrefix_at (m : List Int) {v : Bool} (w : World) (hm : ∀ x ∈ m, 0 ≤ x ∧ x ≤ 255) (hl : m.length ≤ maxLen) (hv : decide (m.take 3 = [239, 191, 189]) = v) :
    Calls Tryz.prog 136 #[.string (strOfNums m), .string ⟨#[239, 191, 189]⟩] w fun e w' => e = .returned (.bool v) ∧ w' = w := by
  unfold maxLen at hl
  have hsz : (strOfNums m).size = m.length := strOfNums_size m
  have hsl : (⟨#[239, 191, 189]⟩ : ByteArray).size = 3 := rfl
  by_cases h3 : 3 ≤ m.length
  · have d3 : decide ((3 : Int) ≤ (m.length : Int)) = true := decide_eq_true (by omega)
    have hx := str_extract m 0 3
    simp only [List.drop_zero, Nat.sub_zero] at hx
    go_enter Tryz.func136, Tryz.ntmps136
    go_wp2
    go_ret
    exact ⟨ret_bool (by rw [← hv]; exact str_fffd (fun x hx => hm x (List.mem_of_mem_take hx))), rfl⟩
  · have d3 : decide ((3 : Int) ≤ (m.length : Int)) = false := decide_eq_false (by omega)
    go_enter Tryz.func136, Tryz.ntmps136
    go_wp2
    go_ret
    exact ⟨ret_bool (by rw [← hv]; exact (decide_eq_false fun e => by have := congrArg List.length e; simp at this; omega).symm), rfl⟩
theorem Prefix_at (m : List Int) {v : Bool} (w : World) (hm : ∀ x ∈ m, 0 ≤ x ∧ x ≤ 255) (hl : m.length ≤ maxLen) (hv : decide (m.take 3 = [239, 191, 189]) = v) :
    Calls Tryz.prog 126 #[.string (strOfNums m), .string ⟨#[239, 191, 189]⟩] w fun e w' => e = .returned (.bool v) ∧ w' = w := by
  go_enter Tryz.func126, Tryz.ntmps126
  go_wp2_with (go_at_call 136; refine (HasPrefix_at m _ hm hl hv).mono ?_; rintro e w' ⟨rfl, rfl⟩)
  go_ret
  exact ⟨rfl, rfl⟩
theorem first_bad {l : List Int} (h : lng l = 0) : (first l).1 = 65533 := by
  cases l with
  | nil => rfl
  | cons a r =>
    simp only [first]
    split
    · rename_i hw
      simp only [lng, if_pos hw] at h
      rw [h] at hw
      cases hw
    · rfl
theorem stp_bad' {l : List Int} (h : lng l = 0) : stp l = stepV 65533 1 false := by
  cases l with
  | nil => simp [stp, wid, whl, first, lng]
  | cons a r =>
    have hw : wid (a :: r) = 1 := by rw [wid_lng, if_pos h]
    simp [stp, hw, first_bad h, whl, h]
theorem need_of_lng {a : Int} {r : List Int} (h : lng (a :: r) ≠ 0) : need a = ((lng (a :: r) : Nat) : Int) ∧ wid (a :: r) = lng (a :: r) ∧ whl (a :: r) = true := by
  refine ⟨?_, by rw [wid_lng, if_neg h], by simp [whl, h]⟩
  have := need_lo a
  simp only [lng] at h ⊢
  split at h
  · rename_i hw; rw [if_pos hw]; omega
  · exact absurd rfl h
theorem Need_is {x b : Int} (hx : x = b) (w : World) (h0 : 0 ≤ b) (h1 : b ≤ 255) (hT : Tab w) :
    Calls Tryz.prog 100 #[.int .u8 x] w fun e w' => e = .returned (.int .i64 (need b)) ∧ w' = w := by
  subst hx
  exact Need_any _ w h0 h1 hT
theorem told_at (m : List Int) (w : World) (h0 : 0 < m.length) (hm : ∀ x ∈ m, 0 ≤ x ∧ x ≤ 255) (hl : m.length ≤ maxLen) (hT : Tab w) :
    Calls Tryz.prog 106 #[.string (strOfNums m), .int .i32 (first m).1] w fun e w' => e = .returned (stp m) ∧ Below w.heap.size w w' := by
  match m with
  | a :: r =>
  have hm' := hm
  have hl' := hl
  unfold maxLen at hl
  obtain ⟨x0, x1⟩ := hm a (by simp)
  have hsz : (strOfNums (a :: r)).size = r.length + 1 := by rw [strOfNums_size]; rfl
  have hix : Hid (∀ (h : 0 < (strOfNums (a :: r)).size), (((strOfNums (a :: r))[0]'h).toNat : Int) = a) := hide fun h => by
    have e := get_str (a :: r) 0
    rw [show (strOfNums (a :: r)).get! 0 = (strOfNums (a :: r))[0]'h from getElem!_pos (strOfNums (a :: r)).data 0 h] at e
    rw [e]
    simp; omega
  by_cases hlg : lng (a :: r) = 0
  · rw [stp_bad' hlg]
    have hr : (first (a :: r)).1 = 65533 := first_bad hlg
    have hv : decide ((a :: r).take 3 = [239, 191, 189]) = false := decide_eq_false fun e => by have := (fffd_lng e).1; omega
    rw [hr]
    have HV := hide hv
    clear hm hr hv hlg
    go_enter Tryz.func106, Tryz.ntmps106
    go_wp2_with (first
      | (go_at_call 126; refine (Prefix_at (a :: r) _ hm' hl' (unhide HV)).mono ?_; rintro e w' ⟨rfl, rfl⟩)
      | (go_at_call 102; refine (bad_any _).mono ?_; unfold stepV; rintro e w' ⟨rfl, hb⟩; obtain ⟨hc1, hf1⟩ := bcell hb))
    refine bodyPost_ret (v := stepV 65533 1 false) (by simp [results, Tryz.results106, go_sem, stepV, hc1]) rfl ⟨rfl, ?_⟩
    exact stores3 (((Below.refl _ w).alloc (Nat.le_refl _) _).trans (hb.mono (by simp))) (Nat.le_refl _) _ _ _
  · obtain ⟨hn, hw, hb⟩ := need_of_lng hlg
    by_cases hr : (first (a :: r)).1 = 65533
    · have hv : decide ((a :: r).take 3 = [239, 191, 189]) = true := decide_eq_true (lng_fffd hm hlg hr)
      rw [show stp (a :: r) = stepV 65533 (lng (a :: r)) true by rw [stp, hw, hb, hr], hr]
      have HV := hide hv
      generalize lng (a :: r) = n at hn
      have HN := hide hn
      clear hm hr hv hlg hn
      go_enter Tryz.func106, Tryz.ntmps106
      go_wp2_with (first
        | (go_at_call 126; refine (Prefix_at (a :: r) _ hm' hl' (unhide HV)).mono ?_; rintro e w' ⟨rfl, rfl⟩)
        | (go_at_call 100; refine (Need_is (unhide hix _) _ x0 x1 (hT.alloc _)).mono ?_; rw [unhide HN]; rintro e w' ⟨rfl, rfl⟩))
      exact bodyPost_ret (v := stepV 65533 n true) (by simp [results, Tryz.results106, go_sem, stepV]) rfl ⟨rfl, (Below.refl _ _).alloc (Nat.le_refl _) _⟩
    · rw [show stp (a :: r) = stepV (first (a :: r)).1 (lng (a :: r)) true by rw [stp, hw, hb]]
      have hne : ((first (a :: r)).1 == 65533) = false := by rw [beq_eq_false_iff_ne]; exact hr
      generalize (first (a :: r)).1 = v at hne
      generalize lng (a :: r) = n at hn
      have HN := hide hn
      clear hm hr hlg hn
      go_enter Tryz.func106, Tryz.ntmps106
      go_wp2_with (go_at_call 100; refine (Need_is (unhide hix _) _ x0 x1 (hT.alloc _)).mono ?_; rw [unhide HN]; rintro e w' ⟨rfl, rfl⟩)
      exact bodyPost_ret (v := stepV v n true) (by simp [results, Tryz.results106, go_sem, stepV]) rfl ⟨rfl, (Below.refl _ _).alloc (Nat.le_refl _) _⟩
end
section
theorem places_end (l : List Int) (f p : Nat) (h : ¬ p < l.length) : places l f p = [] := by
  cases f with
  | zero => rfl
  | succ f => simp only [places, if_neg h]
theorem places_fuel (l : List Int) : ∀ (f f' p : Nat), l.length - p ≤ f → l.length - p ≤ f' → places l f p = places l f' p
  | 0, f', p, h, _ => by rw [places_end l f' p (by omega)]; rfl
  | f + 1, 0, p, _, h => by rw [places_end l (f + 1) p (by omega)]; rfl
  | f + 1, f' + 1, p, h, h' => by
    simp only [places]
    by_cases hp : p < l.length
    · rw [if_pos hp, if_pos hp]
      have := wid_pos hp
      rw [places_fuel l f f' (p + wid (l.drop p)) (by omega) (by omega)]
    · rw [if_neg hp, if_neg hp]
def spots (l : List Int) (p : Nat) : List Nat := places l (l.length - p) p
theorem spots_end {l : List Int} {p : Nat} (h : ¬ p < l.length) : spots l p = [] := places_end l _ p h
theorem spots_cons {l : List Int} {p : Nat} (h : p < l.length) : spots l p = p :: spots l (p + wid (l.drop p)) := by
  unfold spots
  obtain ⟨f, hf⟩ : ∃ f, l.length - p = f + 1 := ⟨l.length - p - 1, by omega⟩
  have := wid_pos h
  rw [hf]
  simp only [places, if_pos h]
  rw [places_fuel l f (l.length - (p + wid (l.drop p))) _ (by omega) (by omega)]
def valid (l : List Int) : Bool := (spots l 0).all fun p => whl (l.drop p)
theorem next_in {P : Program} (w : World) (k : Nat) (s : ByteArray) (pos : Nat) (ty : TypeId) (hk : w.heap[k]? = some (.stringIter s pos)) (h : pos < s.size) :
    (Instr.next (.pointer (some ⟨k, 0, none⟩)) true ty).run P w = .ok (.tuple #[.bool true, .int .i64 pos, .int .i32 (Utf8.decode s pos).1]) (w.putObj k (.stringIter s (pos + (Utf8.decode s pos).2))) := by
  simp only [Instr.next, getObj, setObj, Sem.run_bind, Sem.run, hk, Result.andThen, h, if_true]
  simp [goInt, World.putObj]
theorem next_out {P : Program} (w : World) (k : Nat) (s : ByteArray) (pos : Nat) (ty : TypeId) (hk : w.heap[k]? = some (.stringIter s pos)) (h : ¬ pos < s.size) :
    (Instr.next (.pointer (some ⟨k, 0, none⟩)) true ty).run P w = .ok (.tuple #[.bool false]) w := by
  simp [Instr.next, getObj, Sem.run, hk, h]
theorem heap_lt {w : World} {k : Nat} {o : Obj} (h : w.heap[k]? = some o) : k < w.heap.size := by
  rcases Nat.lt_or_ge k w.heap.size with h' | h'
  · exact h'
  · rw [Array.getElem?_eq_none h'] at h; cases h
theorem pos_in {w : World} {k : Nat} {s : ByteArray} {pos : Nat} (h : w.heap[k]? = some (.stringIter s pos)) : w.iterPos k = pos := by simp [World.iterPos, h]
theorem decode_stp {l : List Int} (hl : ∀ x ∈ l, 0 ≤ x ∧ x ≤ 255) {p : Nat} (hp : p < l.length) : ((Utf8.decode (strOfNums l) p).1 : Int) = (first (l.drop p)).1 ∧ (Utf8.decode (strOfNums l) p).2 = wid (l.drop p) := by
  cases hd : l.drop p with
  | nil => have := congrArg List.length hd; simp at this; omega
  | cons a r =>
    have := decode_first l hl p a r hd
    exact ⟨congrArg Prod.fst this, congrArg Prod.snd this⟩
end
end Go.Proofs.YteamaneompijkaaGreatDoor
