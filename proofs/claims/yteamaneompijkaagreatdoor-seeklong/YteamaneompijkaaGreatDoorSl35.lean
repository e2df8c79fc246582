/- What is broken off: End. · Contracts of the document's answer: Begins, Whole, Value, Is and Bytes of layer 1, over a []byte that lies in memory: each answers by the plain functions; they only draw, and Bytes answers in new memory. · Scanning in plain functions: what is told and held behind each byte; it is the steps of all bytes, whatever the pieces. -/
import Derived.Test.YteamaneompijkaaGreatDoorSl34
import Derived.Test.YteamaneompijkaaGreatDoorSl01
import Derived.Test.YteamaneompijkaaGreatDoorSl03

section
namespace Go.Proofs.YteamaneompijkaaGreatDoor
open Go.ChangeShapes Go.WideShapes Go.ChangeAt Go.RowKit

/-- steps: rune, width, whole -/
abbrev Tri := Int × Nat × Bool
def tc (t : Tri) : List Value := [.int .i32 t.1, .int .i64 t.2.1, .bool t.2.2]
def tcs (ts : List Tri) : List Value := ts.flatMap tc
def badT : Tri := (65533, 1, false)
def RT (B : Nat) (v : Value) (ts : List Tri) (W : World) : Prop := W.ownsRow B 82 3 v ts.length (tcs ts)
theorem RT.nil (B : Nat) (W : World) : RT B (.slice none 0 0) [] W := World.ownsRow_nil _ _ _ _
theorem RT.below {B : Nat} {v : Value} {ts : List Tri} {W W' : World} (h : RT B v ts W) (hb : Below W.heap.size W W') : RT B v ts W' := own_bl h hb
set_option maxRecDepth 100000 in
theorem RT.push {B : Nat} {v : Value} {ts : List Tri} {W : World} (h : RT B v ts W) (r : Int) (n : Nat) (b : Bool) (hn : ts.length ≤ 4194304) (hB : B ≤ W.heap.size) :
    ∃ g k W', (Builtin.append_ #[57, 57] 57 #[v, .slice (some ⟨W.heap.size, 0, none⟩) 1 1]).run Tryz.prog (W.alloc (.cells #[.int .i32 r, .int .i64 (n : Int), .bool b] 82)) = .ok (.slice (some ⟨g, 0, none⟩) (ts.length + 1) k) W' ∧
      RT B (.slice (some ⟨g, 0, none⟩) (ts.length + 1) k) (ts ++ [(r, n, b)]) W' ∧ Below B W W' := by
  obtain ⟨g, k, W', h1, h2, h3⟩ := push_st W B ts.length v (tcs ts) (.int .i32 r) (.int .i64 (n : Int)) (.bool b) 57 h hn hB rfl rfl rfl
  exact ⟨g, k, W', h1, by simpa [RT, tcs, tc] using h2, h3⟩

set_option maxRecDepth 100000 in
theorem RT.pushb {B : Nat} {v : Value} {ts : List Tri} {W : World} (h : RT B v ts W) (hn : ts.length ≤ 4194304) (hB : B ≤ W.heap.size) :
    ∃ g k W', (Builtin.append_ #[57, 57] 57 #[v, .slice (some ⟨W.heap.size, 0, none⟩) 1 1]).run Tryz.prog (W.alloc (.cells #[.int .i32 65533, .int .i64 1, .bool false] 82)) = .ok (.slice (some ⟨g, 0, none⟩) (ts.length + 1) k) W' ∧
      RT B (.slice (some ⟨g, 0, none⟩) (ts.length + 1) k) (ts ++ [badT]) W' ∧ Below B W W' := h.push 65533 1 false hn hB
theorem RT.same {B : Nat} {v : Value} {ts : List Tri} {W W' : World} (h : RT B v ts W) (hb : ∀ k, B ≤ k → k < W.heap.size → W'.heap[k]? = W.heap[k]?) : RT B v ts W' := by
  refine ⟨h.1, ?_⟩
  rcases h.2 with hn | ⟨g, cap, cur, rfl, hB, hgg, rest⟩
  · exact .inl hn
  · exact .inr ⟨g, cap, cur, rfl, hB, (hb g hB (Array.getElem?_eq_some_iff.1 hgg).1).trans hgg, rest⟩
theorem own_set {B g o : Nat} {v x : Value} {ts : List Tri} {W : World} (h : RT B v ts W) (hg : g < B) : RT B v ts (W.setCell ⟨g, o, none⟩ x) := h.same fun k hk _ => by
  simp only [World.setCell]
  rw [Array.getElem?_modify, if_neg (by show ¬ g = k; omega)]

set_option maxHeartbeats 1000000 in
set_option maxRecDepth 100000 in
theorem breakOff_at (g B : Nat) (h : List Int) (fed : Int) (v : Value) (ts : List Tri) (w : World) (hS : Sca w g h fed) (hR : RT B v ts w) (hB : B ≤ w.heap.size) (hgB : g < B) (hn : ts.length ≤ 4194000) :
    Calls Tryz.prog 146 #[.pointer (some ⟨g, 0, none⟩), v] w fun e w' => ∃ v', e = .returned v' ∧ RT B v' (ts ++ List.replicate h.length badT) w' ∧ Sca w' g [] fed ∧ Scf B g w w' := by
  have hle := hS.2.1
  have hc := hS.2.2.2.2.2.1
  have HS := hide hS
  clear hS
  generalize hm : h.length = m at *
  have HM := hide hm
  clear hm
  go_enter Tryz.func146, Tryz.ntmps146
  go_wp2_with fail
  go_loopw [1, 9] (fun u i wx => ∃ (k : Nat), k ≤ m ∧ i = .int .i64 k ∧ Hid (RT B u (ts ++ List.replicate k badT) wx) ∧ Below B w wx) (fun _ i _ => m - (intOf i).toNat)
  case atStart => exact ⟨0, Nat.zero_le _, rfl, by simpa using hide hR, Below.refl _ _⟩
  case round =>
    obtain ⟨k, hk, rfl, ho, hb⟩ := hrel
    by_cases hlt : k < m
    · go_wp2_with fail
      refine (sbad_any _).mono ?_
      unfold stepV
      rintro e w2 ⟨rfl, x2⟩
      have hb2 := hb.trans (x2.mono (Nat.le_trans hB hb.size))
      have hl2 : (ts ++ List.replicate k badT).length = ts.length + k := by simp
      obtain ⟨g3, c3, w3, r3, o3, x3⟩ := ((unhide ho).below x2).pushb (by rw [hl2]; omega) (Nat.le_trans hB hb2.size)
      have R3 := hide r3
      clear r3
      go_wp2_with (at_builtin; refine wpList_append_known rfl _ _ 57 57 rfl _ _ rfl rfl _ _ (unhide R3) ?_)
      go_roundw
      case rel => exact ⟨k + 1, by omega, by go_num, hide (by rw [List.replicate_succ', ← List.append_assoc, ← hl2]; exact o3), hb2.trans x3⟩
      case measure => simp [intOf]; omega
    · obtain rfl : k = m := by omega
      have hSx := (unhide HS).below hb hgB
      have hcx := hSx.2.2.2.2.2.1
      have hfx := hSx.2.2.2.1 3 (by omega)
      have HX := hide hSx
      clear hSx
      go_wp2_with fail
      go_ret
      refine ⟨_, rfl, ?_, (unhide HX).gone, (Scf.of hb).set _ _⟩
      exact own_set (unhide ho) hgB
end Go.Proofs.YteamaneompijkaaGreatDoor
end

section
namespace Go.Proofs.YteamaneompijkaaGreatDoor
open Go.ChangeShapes Go.WideShapes Go.ChangeAt Go.RowKit

def begins : List Int → Bool
  | [] => false
  | a :: r => decide ((r.length : Int) + 1 ≤ need a) && (match r with | [] => true | b :: t => sec a b && t.all isTail)
theorem begins_one {a : Int} (h : 1 ≤ need a) : begins [a] = true := by simp [begins, h]
theorem begins_more {a b : Int} {t : List Int} (h : (t.length : Int) + 2 ≤ need a) : begins (a :: b :: t) = (sec a b && t.all isTail) := by
  have : ((b :: t).length : Int) + 1 ≤ need a := by simp only [List.length_cons]; omega
  simp only [begins, this, decide_true, Bool.true_and]

theorem begins_whole {a : Int} {r : List Int} : (begins (a :: r) && ((r.length : Int) + 1 == need a)) = whole (a :: r) := by
  by_cases h : (r.length : Int) + 1 = need a
  · have h1 : ((r.length : Int) + 1 == need a) = true := beq_iff_eq.2 h
    rw [h1, Bool.and_true]
    simp only [begins, whole, h, Int.le_refl, decide_true, Bool.true_and]
    cases r <;> rfl
  · have h1 : ((r.length : Int) + 1 == need a) = false := beq_eq_false_iff_ne.2 h
    rw [h1, Bool.and_false, whole_len h]

end Go.Proofs.YteamaneompijkaaGreatDoor
end

section
namespace Go.Proofs.YteamaneompijkaaGreatDoor
open Go.ChangeShapes Go.WideShapes Go.ChangeAt Go.RowKit

def tri (l : List Int) : Tri := ((first l).1, wid l, whl l)
def stepsL (l : List Int) : List Tri := (spots l 0).map fun p => tri (l.drop p)

theorem stepsL_nil : stepsL [] = [] := by simp [stepsL, spots_end (l := []) (p := 0) (by simp)]
theorem steps_from : ∀ (n : Nat) (l : List Int) (p : Nat), l.length - p ≤ n → (spots l p).map (fun q => tri (l.drop q)) = stepsL (l.drop p)
  | n, l, p, hn => by
    by_cases hp : p < l.length
    · obtain ⟨k, rfl⟩ : ∃ k, n = k + 1 := ⟨n - 1, by omega⟩
      have hw := wid_pos hp
      have hm : 0 < (l.drop p).length := by simp; omega
      have h1 := steps_from k l (p + wid (l.drop p)) (by omega)
      have h2 := steps_from k (l.drop p) (wid (l.drop p)) (by simp; omega)
      rw [spots_cons hp, stepsL, spots_cons hm]
      simp only [List.map_cons, List.drop_zero, Nat.zero_add]
      rw [h1, h2, List.drop_drop]
    · rw [spots_end hp, List.drop_of_length_le (by omega), stepsL_nil]; rfl
theorem stepsL_cons {l : List Int} (h : 0 < l.length) : stepsL l = tri l :: stepsL (l.drop (wid l)) := by
  have h2 := steps_from l.length l (wid l) (by omega)
  conv => lhs; rw [stepsL, spots_cons h]
  simp only [List.map_cons, List.drop_zero, Nat.zero_add]
  rw [h2]
theorem lng_zero {a : Int} {r : List Int} (h : whole ((a :: r).take (need a).toNat) = false) : lng (a :: r) = 0 := by simp [lng, h]
theorem tri_bad {a : Int} {r : List Int} (h : lng (a :: r) = 0) : tri (a :: r) = badT ∧ wid (a :: r) = 1 := by
  have hw : wid (a :: r) = 1 := by rw [wid_lng, if_pos h]
  have hf : (first (a :: r)).1 = 65533 := by
    simp only [first]
    split
    · rename_i hw
      simp only [lng, if_pos hw] at h
      rw [h] at hw
      cases hw
    · rfl
  exact ⟨by simp [tri, badT, hw, hf, whl, h], hw⟩
theorem steps_bad {a : Int} {r : List Int} (h : lng (a :: r) = 0) : stepsL (a :: r) = badT :: stepsL r := by
  rw [stepsL_cons (by simp), (tri_bad h).1, (tri_bad h).2]; rfl
theorem steps_whole {h c : List Int} (hw : whole h = true) : stepsL (h ++ c) = (value h, h.length, true) :: stepsL c := by
  cases h with
  | nil => cases hw
  | cons a r =>
    have hn := whole_need hw
    have e : (a :: (r ++ c)).take (need a).toNat = a :: r := by
      rw [← hn, show ((r.length : Int) + 1).toNat = r.length + 1 by omega]; simp
    have hl : lng (a :: (r ++ c)) = r.length + 1 := by
      show (if whole ((a :: (r ++ c)).take (need a).toNat) = true then (need a).toNat else 0) = _
      rw [e, if_pos hw]; omega
    have hv : first (a :: (r ++ c)) = (value (a :: r), r.length + 1) := by
      show (if whole ((a :: (r ++ c)).take (need a).toNat) = true then (value ((a :: (r ++ c)).take (need a).toNat), (need a).toNat) else (65533, 1)) = _
      rw [e, if_pos hw, show (need a).toNat = r.length + 1 by omega]
    rw [List.cons_append, stepsL_cons (by simp)]
    simp [tri, wid, whl, hl, hv]

/-- a beginning of an encoding that is not whole -/
def prop (h : List Int) : Bool := begins h && !whole h
theorem prop_1 {a : Int} (h : 2 ≤ need a) : prop [a] = true := by
  rw [prop, begins_one (by omega), whole_len (by simp; omega)]; rfl
theorem prop_2 {a b : Int} (h : 3 ≤ need a) (hs : sec a b = true) : prop [a, b] = true := by
  rw [prop, begins_more (by simp; omega), whole_len (by simp; omega), hs]; rfl
theorem prop_3 {a b c : Int} (h : need a = 4) (hs : sec a b = true) (ht : isTail c = true) : prop [a, b, c] = true := by
  rw [prop, begins_more (by simp; omega), whole_len (by simp; omega), hs]; simp [ht]
theorem prop_cases {h : List Int} (hp : prop h = true) : (∃ a, h = [a] ∧ 2 ≤ need a) ∨ (∃ a b, h = [a, b] ∧ 3 ≤ need a ∧ sec a b = true) ∨ (∃ a b c, h = [a, b, c] ∧ need a = 4 ∧ sec a b = true ∧ isTail c = true) := by
  simp only [prop, Bool.and_eq_true, Bool.not_eq_true'] at hp
  obtain ⟨hb, hw⟩ := hp
  cases h with
  | nil => cases hb
  | cons a r =>
    have hle : (r.length : Int) + 1 ≤ need a := by
      simp only [begins, Bool.and_eq_true, decide_eq_true_eq] at hb; exact hb.1
    have hne : ¬ (r.length : Int) + 1 = need a := fun e => by
      have := @begins_whole a r
      rw [hw, hb, beq_iff_eq.2 e] at this
      cases this
    have hn := need_hi a
    match r, hle, hne, hb with
    | [], hle, hne, _ => exact Or.inl ⟨a, rfl, by simp at hle hne; omega⟩
    | [b], hle, hne, hb =>
      simp at hle hne
      rw [begins_more (by simp; omega)] at hb
      simp at hb
      exact Or.inr (Or.inl ⟨a, b, rfl, by omega, hb⟩)
    | [b, c], hle, hne, hb =>
      simp at hle hne
      rw [begins_more (by simp; omega)] at hb
      simp at hb
      exact Or.inr (Or.inr ⟨a, b, c, rfl, by omega, hb.1, hb.2⟩)
    | b :: c :: d :: t, hle, hne, _ => simp at hle hne; omega
theorem prop_len {h : List Int} (hp : prop h = true) : 1 ≤ h.length ∧ h.length ≤ 3 := by
  rcases prop_cases hp with ⟨a, rfl, _⟩ | ⟨a, b, rfl, _⟩ | ⟨a, b, c, rfl, _⟩ <;> simp

/-- may the byte stand behind what is held -/
def fits : List Int → Int → Bool
  | [], _ => false
  | [a], x => sec a x
  | _, x => isTail x
/-- a byte with nothing held -/
def one (x : Int) : List Tri × List Int := if need x = 0 then ([badT], []) else if need x = 1 then ([(value [x], 1, true)], []) else ([], [x])
/-- a byte behind what is held: what is told, what is held then -/
def stepS (h : List Int) (x : Int) : List Tri × List Int :=
  if h = [] then one x else if fits h x then (if need (h.getD 0 0) = (h.length : Int) + 1 then ([(value (h ++ [x]), h.length + 1, true)], []) else ([], h ++ [x]))
  else (List.replicate h.length badT ++ (one x).1, (one x).2)
def scanS : List Int → List Int → List Tri × List Int
  | h, [] => ([], h)
  | h, x :: b => ((stepS h x).1 ++ (scanS (stepS h x).2 b).1, (scanS (stepS h x).2 b).2)

theorem sec_tail {a b : Int} (h : sec a b = true) : isTail b = true := by
  simp only [sec, decide_eq_true_eq] at h
  simp only [isTail, decide_eq_true_eq]
  omega
theorem whole_inv {a b : Int} {t : List Int} (h : whole (a :: b :: t) = true) : (t.length : Int) + 2 = need a ∧ sec a b = true ∧ t.all isTail = true := by
  have hn := whole_need h
  simp only [List.length_cons] at hn
  have hn' : (t.length : Int) + 2 = need a := by omega
  rw [whole_more hn'] at h
  simp only [Bool.and_eq_true] at h
  exact ⟨hn', h.1, h.2⟩
/-- broken off by a byte that may not stand there -/
theorem steps_broken {h c : List Int} {x : Int} (hp : prop h = true) (hf : fits h x = false) : stepsL (h ++ x :: c) = List.replicate h.length badT ++ stepsL (x :: c) := by
  rcases prop_cases hp with ⟨a, rfl, hn⟩ | ⟨a, b, rfl, hn, hs⟩ | ⟨a, b, d, rfl, hn, hs, ht⟩
  · simp only [fits] at hf
    have h0 : lng (a :: x :: c) = 0 := lng_zero (by
      obtain ⟨k, hk⟩ : ∃ k : Nat, (need a).toNat = k + 2 := ⟨(need a).toNat - 2, by omega⟩
      rw [hk]
      refine Bool.eq_false_iff.2 fun hw => ?_
      have := (whole_inv hw).2.1
      rw [hf] at this; cases this)
    simp [steps_bad h0]
  · simp only [fits] at hf
    have h0 : lng (a :: b :: x :: c) = 0 := lng_zero (by
      obtain ⟨k, hk⟩ : ∃ k : Nat, (need a).toNat = k + 3 := ⟨(need a).toNat - 3, by omega⟩
      rw [hk]
      refine Bool.eq_false_iff.2 fun hw => ?_
      have := (whole_inv hw).2.2
      simp [hf] at this)
    have h1 : lng (b :: x :: c) = 0 := lng_of_tail (by simpa using sec_tail hs)
    simp [steps_bad h0, steps_bad h1]
  · simp only [fits] at hf
    have h0 : lng (a :: b :: d :: x :: c) = 0 := lng_zero (by
      rw [hn]
      refine Bool.eq_false_iff.2 fun hw => ?_
      have := (whole_inv hw).2.2
      simp [hf] at this)
    have h1 : lng (b :: d :: x :: c) = 0 := lng_of_tail (by simpa using sec_tail hs)
    have h2 : lng (d :: x :: c) = 0 := lng_of_tail (by simpa using ht)
    simp [steps_bad h0, steps_bad h1, steps_bad h2, List.replicate]
/-- broken off by the end -/
theorem steps_prop {h : List Int} (hp : prop h = true) : stepsL h = List.replicate h.length badT := by
  rcases prop_cases hp with ⟨a, rfl, hn⟩ | ⟨a, b, rfl, hn, hs⟩ | ⟨a, b, d, rfl, hn, hs, ht⟩
  · have h0 : lng [a] = 0 := lng_zero (by rw [List.take_of_length_le (by simp; omega)]; exact whole_len (by simp; omega))
    simp [steps_bad h0, stepsL_nil]
  · have h0 : lng [a, b] = 0 := lng_zero (by rw [List.take_of_length_le (by simp; omega)]; exact whole_len (by simp; omega))
    have h1 : lng [b] = 0 := lng_of_tail (by simpa using sec_tail hs)
    simp [steps_bad h0, steps_bad h1, stepsL_nil]
  · have h0 : lng [a, b, d] = 0 := lng_zero (by rw [List.take_of_length_le (by simp; omega)]; exact whole_len (by simp; omega))
    have h1 : lng [b, d] = 0 := lng_of_tail (by simpa using sec_tail hs)
    have h2 : lng [d] = 0 := lng_of_tail (by simpa using ht)
    simp [steps_bad h0, steps_bad h1, steps_bad h2, stepsL_nil, List.replicate]
end Go.Proofs.YteamaneompijkaaGreatDoor
end
