/- Plain: the document's seam, pair by pair, is the seam; the document's Valid is validB. · Layer 5: the document's all and Valid (written by wip/tools/wan.py). · Layer 5: the document's seam (written by wip/tools/wrs.py). · Layer 5: the document's Join and Seam (written by wip/tools/wrj.py). · Layer 5: the document's Seam (written by wip/tools/wrj.py). -/
import Derived.Test.YtchlnphapnafcaaDoorWjs
import Derived.Test.YtchlnphapnafcaaDoorRf2D
import Derived.Test.YtchlnphapnafcaaDoorRw6
import Derived.Test.YtchlnphapnafcaaDoorRw7

section
namespace Go.Proofs.YtchlnphapnafcaaDoor
open Go.ChangeShapes Go.WideShapes Go.ChangeAt Go.RowKit

theorem lng_pre {L : List Int} {n : Nat} (h : lng (L.take n) ≠ 0) : lng L = lng (L.take n) ∧ first L = first (L.take n) := by
  cases L with
  | nil => simp
  | cons a r =>
    cases n with
    | zero => simp [lng] at h
    | succ k =>
      have e : (a :: r).take (k + 1) = a :: r.take k := rfl
      rw [e] at h ⊢
      obtain ⟨h1, _, _⟩ := need_of_lng h
      have h2 := lng_len (a :: r.take k)
      have h3 : (need a).toNat ≤ k + 1 := by
        have : (a :: r.take k).length ≤ k + 1 := by simp; omega
        omega
      have e2 : (a :: r.take k).take (need a).toNat = (a :: r).take (need a).toNat := by rw [← e, List.take_take, Nat.min_eq_left h3]
      exact ⟨by simp only [lng, e2], by simp only [first, e2]⟩
theorem lng_cutW {x : List Int} (h : lng x ≠ 0) : lng (x.take (wid x)) = lng x ∧ first (x.take (wid x)) = first x := by
  cases x with
  | nil => simp [lng] at h
  | cons a r =>
    obtain ⟨h1, h2, _⟩ := need_of_lng h
    have hn : (need a).toNat = lng (a :: r) := by omega
    obtain ⟨m, hm⟩ : ∃ m, lng (a :: r) = m + 1 := ⟨lng (a :: r) - 1, by omega⟩
    have e : ((a :: r).take (wid (a :: r))) = a :: r.take m := by rw [h2, hm]; rfl
    have e2 : (a :: r.take m).take (need a).toNat = (a :: r).take (need a).toNat := by
      rw [hn, hm, List.take_succ_cons, List.take_succ_cons, List.take_take, Nat.min_self]
    rw [e]
    exact ⟨by simp only [lng, e2], by simp only [first, e2]⟩
/-- the last k bytes of one and the first j of another -/
def sp (t h : List Int) (k j : Nat) : List Int := t.drop (t.length - k) ++ h.take j
theorem sp_eq {t h : List Int} {k : Nat} (j : Nat) (hk : k ≤ t.length) : sp t h k j = ((t ++ h).drop (t.length - k)).take (k + j) := by
  unfold sp
  have hl : (t.drop (t.length - k)).length = k := by rw [List.length_drop]; omega
  rw [List.drop_append_of_le_length (by omega), List.take_append, hl, List.take_of_length_le (l := t.drop (t.length - k)) (by omega), (by omega : k + j - k = j)]
theorem sp_len {t h : List Int} {k j : Nat} (hk : k ≤ t.length) (hj : j ≤ h.length) : (sp t h k j).length = k + j := by
  unfold sp
  rw [List.length_append, List.length_drop, List.length_take]
  omega
theorem sp_yes {t h : List Int} {k j : Nat} (k1 : 1 ≤ k) (hk : k ≤ t.length) (j1 : 1 ≤ j) (e : lng (sp t h k j) = k + j) :
    inside (t ++ h) t.length = true ∧ flr (t ++ h) t.length = t.length - k ∧ wid ((t ++ h).drop (t.length - k)) = k + j ∧ first (sp t h k j) = first ((t ++ h).drop (t.length - k)) := by
  rw [sp_eq j hk] at e ⊢
  obtain ⟨h1, h2⟩ := lng_pre (L := (t ++ h).drop (t.length - k)) (n := k + j) (by omega)
  have hl : lng ((t ++ h).drop (t.length - k)) = k + j := by omega
  have hin : inside (t ++ h) t.length = true := (inside_iff _ _).2 ⟨t.length - k, by omega, by omega⟩
  refine ⟨hin, ?_, ?_, h2.symm⟩
  · refine flr_at k1 hk (by omega) (fun i i1 i2 hi => ?_)
    have := lng_cross (l := t ++ h) (p := t.length - k) (q := t.length - i) (by omega) (by omega)
    omega
  · cases hd : (t ++ h).drop (t.length - k) with
    | nil => rw [hd] at hl; simp [lng] at hl; omega
    | cons a r =>
      rw [hd] at hl
      rw [wid_lng, if_neg (by omega)]
      exact hl
/-- where the encoding over the seam begins, and how much of it lies behind -/
def sk (t h : List Int) : Nat := t.length - flr (t ++ h) t.length
def sj (t h : List Int) : Nat := flr (t ++ h) t.length + wid ((t ++ h).drop (flr (t ++ h) t.length)) - t.length
theorem sp_is {t h : List Int} (hin : inside (t ++ h) t.length = true) : 1 ≤ sk t h ∧ sk t h ≤ t.length ∧ 1 ≤ sj t h ∧ sj t h ≤ h.length ∧ lng (sp t h (sk t h) (sj t h)) = sk t h + sj t h := by
  obtain ⟨h1, h2⟩ := flr_wid hin
  have hw := wid_gt (l := (t ++ h).drop (flr (t ++ h) t.length)) (k := 1) (by omega)
  have hw1 : 1 < lng ((t ++ h).drop (flr (t ++ h) t.length)) := by rw [← hw]; omega
  have hwl : wid ((t ++ h).drop (flr (t ++ h) t.length)) = lng ((t ++ h).drop (flr (t ++ h) t.length)) := by
    cases hd : (t ++ h).drop (flr (t ++ h) t.length) with
    | nil => rw [hd] at hw1; simp [lng] at hw1
    | cons a r => rw [hd] at hw1; rw [wid_lng, if_neg (by omega)]
  have hlen := lng_len ((t ++ h).drop (flr (t ++ h) t.length))
  rw [List.length_drop, List.length_append] at hlen
  have hk : sk t h ≤ t.length := by unfold sk; omega
  have hf : t.length - sk t h = flr (t ++ h) t.length := by unfold sk; omega
  refine ⟨by unfold sk; omega, hk, by unfold sj; omega, by unfold sj; omega, ?_⟩
  rw [sp_eq _ hk, hf]
  have hs : sk t h + sj t h = wid ((t ++ h).drop (flr (t ++ h) t.length)) := by unfold sk sj; omega
  rw [hs]
  have := (lng_cutW (x := (t ++ h).drop (flr (t ++ h) t.length)) (by omega)).1
  omega
/-- has the pair of the seam been met? -/
def met (t h : List Int) (k j : Nat) : Prop := inside (t ++ h) t.length = true ∧ (sk t h < k ∨ (sk t h = k ∧ sj t h < j))
instance (t h : List Int) (k j : Nat) : Decidable (met t h k j) := by unfold met; exact inferInstance
def zR (t h : List Int) (k j : Nat) : Int := if met t h k j then seamR (t ++ h) t.length else 0
def zU (t h : List Int) (k j : Nat) : Int := if met t h k j then seamU (t ++ h) t.length else 0
theorem met_0 (t h : List Int) : ¬ met t h 1 1 := fun ⟨hin, hm⟩ => by have := sp_is hin; omega
theorem met_row (t h : List Int) (k : Nat) : met t h k (h.length + 1) ↔ met t h (k + 1) 1 := by
  unfold met
  constructor
  · rintro ⟨hin, hm⟩
    exact ⟨hin, by omega⟩
  · rintro ⟨hin, hm⟩
    have := sp_is hin
    exact ⟨hin, by omega⟩
theorem met_end (t h : List Int) : met t h (t.length + 1) 1 ↔ inside (t ++ h) t.length = true := by
  unfold met
  constructor
  · exact fun hm => hm.1
  · intro hin
    have := sp_is hin
    exact ⟨hin, by omega⟩
theorem zR_0 (t h : List Int) : zR t h 1 1 = 0 := if_neg (met_0 t h)
theorem zU_0 (t h : List Int) : zU t h 1 1 = 0 := if_neg (met_0 t h)
theorem zR_row (t h : List Int) (k : Nat) : zR t h k (h.length + 1) = zR t h (k + 1) 1 := by unfold zR; simp only [met_row]
theorem zU_row (t h : List Int) (k : Nat) : zU t h k (h.length + 1) = zU t h (k + 1) 1 := by unfold zU; simp only [met_row]
theorem zR_end (t h : List Int) : zR t h (t.length + 1) 1 = seamR (t ++ h) t.length := by
  unfold zR
  by_cases hin : inside (t ++ h) t.length = true
  · rw [if_pos ((met_end t h).2 hin)]
  · rw [if_neg (fun hm => hin ((met_end t h).1 hm))]
    unfold seamR
    rw [if_neg hin]
theorem zU_end (t h : List Int) : zU t h (t.length + 1) 1 = seamU (t ++ h) t.length := by
  unfold zU
  by_cases hin : inside (t ++ h) t.length = true
  · rw [if_pos ((met_end t h).2 hin)]
  · rw [if_neg (fun hm => hin ((met_end t h).1 hm))]
    unfold seamU
    rw [if_neg hin]
theorem z_yes {t h : List Int} {k j : Nat} (k1 : 1 ≤ k) (hk : k ≤ t.length) (j1 : 1 ≤ j) (e : lng (sp t h k j) = k + j) :
    zR t h k (j + 1) = (k : Int) + (j : Int) - 1 ∧ zU t h k (j + 1) = (k : Int) + (j : Int) - uni1 (first (sp t h k j)).1 := by
  obtain ⟨hin, hf, hw, h1⟩ := sp_yes k1 hk j1 e
  have hs : sk t h = k := by unfold sk; omega
  have hs2 : sj t h = j := by unfold sj; rw [hf, hw]; omega
  have hm : met t h k (j + 1) := ⟨hin, Or.inr ⟨hs, by omega⟩⟩
  unfold zR zU
  rw [if_pos hm, if_pos hm]
  unfold seamR seamU
  rw [if_pos hin, if_pos hin, hf, hw, h1]
  exact ⟨by omega, by omega⟩
theorem z_no {t h : List Int} {k j : Nat} (e : ¬ lng (sp t h k j) = k + j) : zR t h k (j + 1) = zR t h k j ∧ zU t h k (j + 1) = zU t h k j := by
  have hm : met t h k (j + 1) ↔ met t h k j := by
    unfold met
    constructor
    · rintro ⟨hin, hm⟩
      refine ⟨hin, ?_⟩
      rcases hm with hm | ⟨hm, hm2⟩
      · exact Or.inl hm
      · refine Or.inr ⟨hm, ?_⟩
        rcases Nat.lt_or_ge (sj t h) j with h2 | h2
        · exact h2
        · exfalso
          have hj : sj t h = j := by omega
          have := (sp_is hin).2.2.2.2
          rw [hm, hj] at this
          exact e this
    · rintro ⟨hin, hm⟩
      exact ⟨hin, by omega⟩
  unfold zR zU
  simp only [hm]
  exact ⟨trivial, trivial⟩

/-- the document's Valid, in plain words -/
def allOk (n : Nat) (h t : List Int) : Bool := if n ≤ 3 then decide (h = t) else decide (h.drop (n - 3) = t.take (6 - n))
theorem told_few {n : Nat} {h t : List Int} (lh : h.length = n) : toldL n h t = h := by
  unfold toldL
  rw [List.drop_of_length_le (by omega)]
  simp
theorem told_some {n : Nat} {h t : List Int} (hn : 3 < n) (h6 : n ≤ 6) (lh : h.length = 3) (lt : t.length = 3) : toldL n h t = h ++ t.drop (6 - n) := by
  unfold toldL
  rw [lh, lt]
  congr 2
  omega
theorem few_iff {n : Nat} {z : Sz} {h t : List Int} (hn : n ≤ 3) (lh : h.length = n) : ((⟨z, h, t⟩ : We) = ofL (toldL n h t)) ↔ (h = t ∧ szL (toldL n h t) = z) := by
  rw [told_few lh]
  unfold ofL tail3
  rw [List.take_of_length_le (by omega), lh, (by omega : n - 3 = 0), List.drop_zero]
  simp only [We.mk.injEq]
  constructor
  · rintro ⟨a, _, c⟩
    exact ⟨c.symm, a.symm⟩
  · rintro ⟨a, b⟩
    exact ⟨b.symm, trivial, a.symm⟩
theorem some_iff {n : Nat} {z : Sz} {h t : List Int} (hn : 3 < n) (h6 : n ≤ 6) (lh : h.length = 3) (lt : t.length = 3) : ((⟨z, h, t⟩ : We) = ofL (toldL n h t)) ↔ (h.drop (n - 3) = t.take (6 - n) ∧ szL (toldL n h t) = z) := by
  rw [told_some hn h6 lh lt]
  unfold ofL tail3
  have e1 : (h ++ t.drop (6 - n)).take 3 = h := by rw [List.take_append_of_le_length (by omega), List.take_of_length_le (by omega)]
  have e2 : (h ++ t.drop (6 - n)).length - 3 = n - 3 := by rw [List.length_append, List.length_drop]; omega
  have e3 : (h ++ t.drop (6 - n)).drop (n - 3) = h.drop (n - 3) ++ t.drop (6 - n) := by rw [List.drop_append_of_le_length (by omega)]
  rw [e1, e2, e3]
  simp only [We.mk.injEq]
  have ht : t = t.take (6 - n) ++ t.drop (6 - n) := (List.take_append_drop ..).symm
  constructor
  · rintro ⟨a, _, c⟩
    refine ⟨?_, a.symm⟩
    have := ht.symm.trans c
    exact ((List.append_cancel_right_eq ..).mp this).symm
  · rintro ⟨a, b⟩
    refine ⟨b.symm, trivial, ?_⟩
    rw [a]
    exact ht
end Go.Proofs.YtchlnphapnafcaaDoor
end

section
namespace Go.Proofs.YtchlnphapnafcaaDoor
open Go.ChangeShapes Go.WideShapes Go.ChangeAt Go.RowKit

set_option maxRecDepth 100000 in
set_option maxHeartbeats 2000000 in
theorem Rall_few (n : Nat) (r u e : Int) (h t : List Int) (w : World) (hh : ∀ x ∈ h, 0 ≤ x ∧ x ≤ 255) (ht : ∀ x ∈ t, 0 ≤ x ∧ x ≤ 255) (hn : n ≤ 3) :
    Calls Tryd.prog 17 #[.agg #[.int .i64 (n : Int), .int .i64 r, .int .i64 u, .int .i64 e, .string (strOfNums h), .string (strOfNums t)]] w fun x w' => x = .returned (.tuple #[.string (strOfNums h), .bool (decide (h = t))]) ∧ Below w.heap.size w w' := by
  have b0 : Below w.heap.size w (w.alloc (.cells #[.int .i64 (n : Int), .int .i64 r, .int .i64 u, .int .i64 e, .string (strOfNums h), .string (strOfNums t)] 25)) := (Below.refl _ _).alloc (Nat.le_refl _) _
  obtain ⟨c0, c1, c2, c3, c4, c5, _⟩ := cells6 (push_get w (.cells #[.int .i64 (n : Int), .int .i64 r, .int .i64 u, .int .i64 e, .string (strOfNums h), .string (strOfNums t)] 25))
  have q1 : (n : Int) ≤ 3 := by omega
  have hs : ((strOfNums h).toList == (strOfNums t).toList) = decide (h = t) := by rw [Bool.eq_iff_iff, beq_iff_eq, decide_eq_true_eq, str_eq hh ht]
  go_enter Tryd.func17, Tryd.ntmps17
  go_upto_region 3 with fail
  have b1 : Below w.heap.size w (w.alloc (.cells #[.int .i64 (n : Int), .int .i64 r, .int .i64 u, .int .i64 e, .string (strOfNums h), .string (strOfNums t)] 25)).drew := Below.drewN b0 1
  have HS0 : Hid ((w.alloc (.cells #[.int .i64 (n : Int), .int .i64 r, .int .i64 u, .int .i64 e, .string (strOfNums h), .string (strOfNums t)] 25)).drew.cell? ⟨w.heap.size, 0, none⟩ = some (.int .i64 (n : Int)) ∧ (w.alloc (.cells #[.int .i64 (n : Int), .int .i64 r, .int .i64 u, .int .i64 e, .string (strOfNums h), .string (strOfNums t)] 25)).drew.cell? ⟨w.heap.size, 1, none⟩ = some (.int .i64 r) ∧ (w.alloc (.cells #[.int .i64 (n : Int), .int .i64 r, .int .i64 u, .int .i64 e, .string (strOfNums h), .string (strOfNums t)] 25)).drew.cell? ⟨w.heap.size, 2, none⟩ = some (.int .i64 u) ∧ (w.alloc (.cells #[.int .i64 (n : Int), .int .i64 r, .int .i64 u, .int .i64 e, .string (strOfNums h), .string (strOfNums t)] 25)).drew.cell? ⟨w.heap.size, 3, none⟩ = some (.int .i64 e) ∧ (w.alloc (.cells #[.int .i64 (n : Int), .int .i64 r, .int .i64 u, .int .i64 e, .string (strOfNums h), .string (strOfNums t)] 25)).drew.cell? ⟨w.heap.size, 4, none⟩ = some (.string (strOfNums h)) ∧ (w.alloc (.cells #[.int .i64 (n : Int), .int .i64 r, .int .i64 u, .int .i64 e, .string (strOfNums h), .string (strOfNums t)] 25)).drew.cell? ⟨w.heap.size, 5, none⟩ = some (.string (strOfNums t))) := hide ⟨c0, c1, c2, c3, c4, c5⟩
  clear c0 c1 c2 c3 c4 c5 b0
  refine regionL (S := fun w' => w'.cell? ⟨w.heap.size, 0, none⟩ = some (.int .i64 (n : Int)) ∧ w'.cell? ⟨w.heap.size, 1, none⟩ = some (.int .i64 r) ∧ w'.cell? ⟨w.heap.size, 2, none⟩ = some (.int .i64 u) ∧ w'.cell? ⟨w.heap.size, 3, none⟩ = some (.int .i64 e) ∧ w'.cell? ⟨w.heap.size, 4, none⟩ = some (.string (strOfNums h)) ∧ w'.cell? ⟨w.heap.size, 5, none⟩ = some (.string (strOfNums t))) (fun _ => false) (by kernel_rfl) ?_
  generalize (w.alloc (.cells #[.int .i64 (n : Int), .int .i64 r, .int .i64 u, .int .i64 e, .string (strOfNums h), .string (strOfNums t)] 25)).drew = wd at *
  refine anyL_take (i := 0) (v := ?vq0) rfl (by kernel_rfl) (by kernel_rfl) (by kernel_rfl) (by kernel_rfl) (fun _ _ _ h => h) (Or.inl ⟨by rfl, ?hq0⟩) (unhide HS0) ?_
  case hq0 => (intro w hSw; (try dsimp only at hSw); go_simp) <;> with_reducible rfl
  simp only [Act.put, List.getElem_toArray, List.getElem_cons_zero, List.setIfInBounds_toArray, List.set_cons_zero, List.set_cons_succ]
  refine anyL_take (i := 1) (v := ?vq1) rfl (by kernel_rfl) (by kernel_rfl) (by kernel_rfl) (by kernel_rfl) (fun _ _ _ h => h) (Or.inl ⟨by rfl, ?hq1⟩) (unhide HS0) ?_
  case hq1 => (intro w hSw; (try dsimp only at hSw); go_simp) <;> with_reducible rfl
  simp only [Act.put, List.getElem_toArray, List.getElem_cons_zero, List.getElem_cons_succ, List.setIfInBounds_toArray, List.set_cons_zero, List.set_cons_succ]
  refine anyL_take (i := 2) (v := ?vq2) rfl (by kernel_rfl) (by kernel_rfl) (by kernel_rfl) (by kernel_rfl) (fun _ _ _ h => h) (Or.inl ⟨by rfl, ?hq2⟩) (unhide HS0) ?_
  case hq2 => (intro w hSw; (try dsimp only at hSw); go_simp) <;> with_reducible rfl
  simp only [Act.put, List.getElem_toArray, List.getElem_cons_zero, List.getElem_cons_succ, List.setIfInBounds_toArray, List.set_cons_zero, List.set_cons_succ]
  refine anyL_take (i := 3) (v := ?vq3) rfl (by kernel_rfl) (by kernel_rfl) (by kernel_rfl) (by kernel_rfl) (fun _ _ _ h => h) (Or.inl ⟨by rfl, ?hq3⟩) (unhide HS0) ?_
  case hq3 => (intro w hSw; (try dsimp only at hSw); go_simp) <;> with_reducible rfl
  simp only [Act.put, List.getElem_toArray, List.getElem_cons_zero, List.getElem_cons_succ, List.setIfInBounds_toArray, List.set_cons_zero, List.set_cons_succ]
  refine anyL_take (i := 4) (v := ?vq4) rfl (by kernel_rfl) (by kernel_rfl) (by kernel_rfl) (by kernel_rfl) (fun _ _ _ h => h) (Or.inl ⟨by rfl, ?hq4⟩) (unhide HS0) ?_
  case hq4 => (intro w hSw; (try dsimp only at hSw); go_simp) <;> with_reducible rfl
  simp only [Act.put, List.getElem_toArray, List.getElem_cons_zero, List.getElem_cons_succ, List.setIfInBounds_toArray, List.set_cons_zero, List.set_cons_succ]
  refine anyL_take (i := 5) (v := ?vq5) rfl (by kernel_rfl) (by kernel_rfl) (by kernel_rfl) (by kernel_rfl) (fun _ _ _ h => h) (Or.inl ⟨by rfl, ?hq5⟩) (unhide HS0) ?_
  case hq5 => (intro w hSw; (try dsimp only at hSw); go_simp) <;> with_reducible rfl
  simp only [Act.put, List.getElem_toArray, List.getElem_cons_zero, List.getElem_cons_succ, List.setIfInBounds_toArray, List.set_cons_zero, List.set_cons_succ]
  refine anyL_take (i := 6) (v := ?vq6) rfl (by kernel_rfl) (by kernel_rfl) (by kernel_rfl) (by kernel_rfl) (fun _ _ _ h => h) (Or.inl ⟨by rfl, ?hq6⟩) (unhide HS0) ?_
  case hq6 => (intro w hSw; (try dsimp only at hSw); go_simp) <;> with_reducible rfl
  simp only [Act.put, List.getElem_toArray, List.getElem_cons_zero, List.getElem_cons_succ, List.setIfInBounds_toArray, List.set_cons_zero, List.set_cons_succ]
  refine anyL_take (i := 7) (v := ?vq7) rfl (by kernel_rfl) (by kernel_rfl) (by kernel_rfl) (by kernel_rfl) (fun _ _ _ h => h) (Or.inl ⟨by rfl, ?hq7⟩) (unhide HS0) ?_
  case hq7 => (intro w hSw; (try dsimp only at hSw); go_simp) <;> with_reducible rfl
  simp only [Act.put, List.getElem_toArray, List.getElem_cons_zero, List.getElem_cons_succ, List.setIfInBounds_toArray, List.set_cons_zero, List.set_cons_succ]
  refine anyL_take (i := 8) (v := ?vq8) rfl (by kernel_rfl) (by kernel_rfl) (by kernel_rfl) (by kernel_rfl) (fun _ _ _ h => h) (Or.inl ⟨by rfl, ?hq8⟩) (unhide HS0) ?_
  case hq8 => (intro w hSw; (try dsimp only at hSw); go_simp) <;> with_reducible rfl
  simp only [Act.put, List.getElem_toArray, List.getElem_cons_zero, List.getElem_cons_succ, List.setIfInBounds_toArray, List.set_cons_zero, List.set_cons_succ]
  refine anyL_done (by kernel_rfl) ?_ _
  go_wp2_with fail
  refine bodyPost_ret (v := .tuple #[.string (strOfNums h), .bool (decide (h = t))]) (by simp [results, Tryd.results17, go_sem]) rfl ⟨rfl, b1⟩

set_option maxRecDepth 100000 in
set_option maxHeartbeats 2000000 in
theorem Rall_some (n : Nat) (r u e : Int) (h t : List Int) (w : World) (hh : ∀ x ∈ h, 0 ≤ x ∧ x ≤ 255) (ht : ∀ x ∈ t, 0 ≤ x ∧ x ≤ 255) (hn : 3 < n) (h6 : n ≤ 6) (lh : h.length = 3) (lt : t.length = 3) :
    Calls Tryd.prog 17 #[.agg #[.int .i64 (n : Int), .int .i64 r, .int .i64 u, .int .i64 e, .string (strOfNums h), .string (strOfNums t)]] w fun x w' => x = .returned (.tuple #[.string (strOfNums (h ++ t.drop (6 - n))), .bool (decide (h.drop (n - 3) = t.take (6 - n)))]) ∧ Below w.heap.size w w' := by
  have b0 : Below w.heap.size w (w.alloc (.cells #[.int .i64 (n : Int), .int .i64 r, .int .i64 u, .int .i64 e, .string (strOfNums h), .string (strOfNums t)] 25)) := (Below.refl _ _).alloc (Nat.le_refl _) _
  obtain ⟨c0, c1, c2, c3, c4, c5, _⟩ := cells6 (push_get w (.cells #[.int .i64 (n : Int), .int .i64 r, .int .i64 u, .int .i64 e, .string (strOfNums h), .string (strOfNums t)] 25))
  have q1 : ¬ ((n : Int) ≤ 3) := by omega
  obtain ⟨o, ho⟩ : ∃ o, o = 6 - n := ⟨_, rfl⟩
  obtain ⟨m, hm⟩ : ∃ m, m = n - 3 := ⟨_, rfl⟩
  rw [← ho, ← hm]
  have hoi : (6 : Int) - (n : Int) = (o : Int) := by omega
  have hmi : (3 : Int) - (o : Int) = (m : Int) := by omega
  have ho3 : (o : Int) ≤ 3 := by omega
  have hm3 : (m : Int) ≤ 3 := by omega
  have hwo : IntKind.i64.wrap (o : Int) = (o : Int) := by rw [IntKind.wrap_i64]; omega
  have hwm : IntKind.i64.wrap (m : Int) = (m : Int) := by rw [IntKind.wrap_i64]; omega
  have hs : ((strOfNums (h.drop m)).toList == (strOfNums (t.take o)).toList) = decide (h.drop m = t.take o) := by rw [Bool.eq_iff_iff, beq_iff_eq, decide_eq_true_eq, str_eq (a := h.drop m) (b := t.take o) (fun x hx => hh x (List.mem_of_mem_drop hx)) (fun x hx => ht x (List.mem_of_mem_take hx))]
  have zh : (strOfNums h).size = 3 := (strOfNums_size h).trans lh
  have zt : (strOfNums t).size = 3 := (strOfNums_size t).trans lt
  have e1 : (strOfNums t).extract o 3 = strOfNums (t.drop o) := by rw [str_extract, List.take_of_length_le (by simp; omega)]
  have e2 : (strOfNums h).extract m 3 = strOfNums (h.drop m) := by rw [str_extract, List.take_of_length_le (by simp; omega)]
  have e3 : (strOfNums t).extract 0 o = strOfNums (t.take o) := by rw [str_extract]; simp
  have hap := str_app h (t.drop o)
  have hcat : ¬ 9223372036854775807 < 3 + (strOfNums (t.drop o)).size := by rw [strOfNums_size]; simp; omega
  clear ho hm hn h6 hh ht lh lt
  go_enter Tryd.func17, Tryd.ntmps17
  go_upto_region 5 with fail
  have b1 : Below w.heap.size w (w.alloc (.cells #[.int .i64 (n : Int), .int .i64 r, .int .i64 u, .int .i64 e, .string (strOfNums h), .string (strOfNums t)] 25)).drew := Below.drewN b0 1
  have HS0 : Hid ((w.alloc (.cells #[.int .i64 (n : Int), .int .i64 r, .int .i64 u, .int .i64 e, .string (strOfNums h), .string (strOfNums t)] 25)).drew.cell? ⟨w.heap.size, 0, none⟩ = some (.int .i64 (n : Int)) ∧ (w.alloc (.cells #[.int .i64 (n : Int), .int .i64 r, .int .i64 u, .int .i64 e, .string (strOfNums h), .string (strOfNums t)] 25)).drew.cell? ⟨w.heap.size, 1, none⟩ = some (.int .i64 r) ∧ (w.alloc (.cells #[.int .i64 (n : Int), .int .i64 r, .int .i64 u, .int .i64 e, .string (strOfNums h), .string (strOfNums t)] 25)).drew.cell? ⟨w.heap.size, 2, none⟩ = some (.int .i64 u) ∧ (w.alloc (.cells #[.int .i64 (n : Int), .int .i64 r, .int .i64 u, .int .i64 e, .string (strOfNums h), .string (strOfNums t)] 25)).drew.cell? ⟨w.heap.size, 3, none⟩ = some (.int .i64 e) ∧ (w.alloc (.cells #[.int .i64 (n : Int), .int .i64 r, .int .i64 u, .int .i64 e, .string (strOfNums h), .string (strOfNums t)] 25)).drew.cell? ⟨w.heap.size, 4, none⟩ = some (.string (strOfNums h)) ∧ (w.alloc (.cells #[.int .i64 (n : Int), .int .i64 r, .int .i64 u, .int .i64 e, .string (strOfNums h), .string (strOfNums t)] 25)).drew.cell? ⟨w.heap.size, 5, none⟩ = some (.string (strOfNums t))) := hide ⟨c0, c1, c2, c3, c4, c5⟩
  clear c0 c1 c2 c3 c4 c5 b0
  refine regionL (S := fun w' => w'.cell? ⟨w.heap.size, 0, none⟩ = some (.int .i64 (n : Int)) ∧ w'.cell? ⟨w.heap.size, 1, none⟩ = some (.int .i64 r) ∧ w'.cell? ⟨w.heap.size, 2, none⟩ = some (.int .i64 u) ∧ w'.cell? ⟨w.heap.size, 3, none⟩ = some (.int .i64 e) ∧ w'.cell? ⟨w.heap.size, 4, none⟩ = some (.string (strOfNums h)) ∧ w'.cell? ⟨w.heap.size, 5, none⟩ = some (.string (strOfNums t))) (fun _ => false) (by kernel_rfl) ?_
  generalize (w.alloc (.cells #[.int .i64 (n : Int), .int .i64 r, .int .i64 u, .int .i64 e, .string (strOfNums h), .string (strOfNums t)] 25)).drew = wd at *
  refine anyL_take (i := 0) (v := ?vq9) rfl (by kernel_rfl) (by kernel_rfl) (by kernel_rfl) (by kernel_rfl) (fun _ _ _ h => h) (Or.inl ⟨by rfl, ?hq9⟩) (unhide HS0) ?_
  case hq9 => (intro w hSw; (try dsimp only at hSw); go_simp) <;> with_reducible rfl
  simp only [Act.put, List.getElem_toArray, List.getElem_cons_zero, List.setIfInBounds_toArray, List.set_cons_zero, List.set_cons_succ]
  refine anyL_take (i := 1) (v := ?vq10) rfl (by kernel_rfl) (by kernel_rfl) (by kernel_rfl) (by kernel_rfl) (fun _ _ _ h => h) (Or.inl ⟨by rfl, ?hq10⟩) (unhide HS0) ?_
  case hq10 => (intro w hSw; (try dsimp only at hSw); go_simp) <;> with_reducible rfl
  simp only [Act.put, List.getElem_toArray, List.getElem_cons_zero, List.getElem_cons_succ, List.setIfInBounds_toArray, List.set_cons_zero, List.set_cons_succ]
  refine anyL_take (i := 2) (v := ?vq11) rfl (by kernel_rfl) (by kernel_rfl) (by kernel_rfl) (by kernel_rfl) (fun _ _ _ h => h) (Or.inl ⟨by rfl, ?hq11⟩) (unhide HS0) ?_
  case hq11 => (intro w hSw; (try dsimp only at hSw); go_simp) <;> with_reducible rfl
  simp only [Act.put, List.getElem_toArray, List.getElem_cons_zero, List.getElem_cons_succ, List.setIfInBounds_toArray, List.set_cons_zero, List.set_cons_succ]
  refine anyL_take (i := 3) (v := ?vq12) rfl (by kernel_rfl) (by kernel_rfl) (by kernel_rfl) (by kernel_rfl) (fun _ _ _ h => h) (Or.inl ⟨by rfl, ?hq12⟩) (unhide HS0) ?_
  case hq12 => (intro w hSw; (try dsimp only at hSw); go_simp) <;> with_reducible rfl
  simp only [Act.put, List.getElem_toArray, List.getElem_cons_zero, List.getElem_cons_succ, List.setIfInBounds_toArray, List.set_cons_zero, List.set_cons_succ]
  refine anyL_take (i := 4) (v := ?vq13) rfl (by kernel_rfl) (by kernel_rfl) (by kernel_rfl) (by kernel_rfl) (fun _ _ _ h => h) (Or.inl ⟨by rfl, ?hq13⟩) (unhide HS0) ?_
  case hq13 => (intro w hSw; (try dsimp only at hSw); go_simp) <;> with_reducible rfl
  simp only [Act.put, List.getElem_toArray, List.getElem_cons_zero, List.getElem_cons_succ, List.setIfInBounds_toArray, List.set_cons_zero, List.set_cons_succ]
  refine anyL_take (i := 5) (v := ?vq14) rfl (by kernel_rfl) (by kernel_rfl) (by kernel_rfl) (by kernel_rfl) (fun _ _ _ h => h) (Or.inl ⟨by rfl, ?hq14⟩) (unhide HS0) ?_
  case hq14 => (intro w hSw; (try dsimp only at hSw); go_simp) <;> with_reducible rfl
  simp only [Act.put, List.getElem_toArray, List.getElem_cons_zero, List.getElem_cons_succ, List.setIfInBounds_toArray, List.set_cons_zero, List.set_cons_succ]
  refine anyL_take (i := 6) (v := ?vq15) rfl (by kernel_rfl) (by kernel_rfl) (by kernel_rfl) (by kernel_rfl) (fun _ _ _ h => h) (Or.inl ⟨by rfl, ?hq15⟩) (unhide HS0) ?_
  case hq15 => (intro w hSw; (try dsimp only at hSw); go_simp) <;> with_reducible rfl
  simp only [Act.put, List.getElem_toArray, List.getElem_cons_zero, List.getElem_cons_succ, List.setIfInBounds_toArray, List.set_cons_zero, List.set_cons_succ]
  refine anyL_take (i := 7) (v := ?vq16) rfl (by kernel_rfl) (by kernel_rfl) (by kernel_rfl) (by kernel_rfl) (fun _ _ _ h => h) (Or.inl ⟨by rfl, ?hq16⟩) (unhide HS0) ?_
  case hq16 => (intro w hSw; (try dsimp only at hSw); go_simp) <;> with_reducible rfl
  simp only [Act.put, List.getElem_toArray, List.getElem_cons_zero, List.getElem_cons_succ, List.setIfInBounds_toArray, List.set_cons_zero, List.set_cons_succ]
  refine anyL_take (i := 8) (v := ?vq17) rfl (by kernel_rfl) (by kernel_rfl) (by kernel_rfl) (by kernel_rfl) (fun _ _ _ h => h) (Or.inl ⟨by rfl, ?hq17⟩) (unhide HS0) ?_
  case hq17 => (intro w hSw; (try dsimp only at hSw); go_simp) <;> with_reducible rfl
  simp only [Act.put, List.getElem_toArray, List.getElem_cons_zero, List.getElem_cons_succ, List.setIfInBounds_toArray, List.set_cons_zero, List.set_cons_succ]
  refine anyL_take (i := 9) (v := ?vq18) rfl (by kernel_rfl) (by kernel_rfl) (by kernel_rfl) (by kernel_rfl) (fun _ _ _ h => h) (Or.inl ⟨by rfl, ?hq18⟩) (unhide HS0) ?_
  case hq18 => (intro w hSw; (try dsimp only at hSw); go_simp) <;> with_reducible rfl
  simp only [Act.put, List.getElem_toArray, List.getElem_cons_zero, List.getElem_cons_succ, List.setIfInBounds_toArray, List.set_cons_zero, List.set_cons_succ]
  refine anyL_take (i := 10) (v := ?vq19) rfl (by kernel_rfl) (by kernel_rfl) (by kernel_rfl) (by kernel_rfl) (fun _ _ _ h => h) (Or.inl ⟨by rfl, ?hq19⟩) (unhide HS0) ?_
  case hq19 => (intro w hSw; (try dsimp only at hSw); go_simp) <;> with_reducible rfl
  simp only [Act.put, List.getElem_toArray, List.getElem_cons_zero, List.getElem_cons_succ, List.setIfInBounds_toArray, List.set_cons_zero, List.set_cons_succ]
  refine anyL_take (i := 11) (v := ?vq20) rfl (by kernel_rfl) (by kernel_rfl) (by kernel_rfl) (by kernel_rfl) (fun _ _ _ h => h) (Or.inl ⟨by rfl, ?hq20⟩) (unhide HS0) ?_
  case hq20 => (intro w hSw; (try dsimp only at hSw); go_simp) <;> with_reducible rfl
  simp only [Act.put, List.getElem_toArray, List.getElem_cons_zero, List.getElem_cons_succ, List.setIfInBounds_toArray, List.set_cons_zero, List.set_cons_succ]
  refine anyL_take (i := 12) (v := ?vq21) rfl (by kernel_rfl) (by kernel_rfl) (by kernel_rfl) (by kernel_rfl) (fun _ _ _ h => h) (Or.inl ⟨by rfl, ?hq21⟩) (unhide HS0) ?_
  case hq21 => (intro w hSw; (try dsimp only at hSw); go_simp) <;> with_reducible rfl
  simp only [Act.put, List.getElem_toArray, List.getElem_cons_zero, List.getElem_cons_succ, List.setIfInBounds_toArray, List.set_cons_zero, List.set_cons_succ]
  refine anyL_take (i := 13) (v := ?vq22) rfl (by kernel_rfl) (by kernel_rfl) (by kernel_rfl) (by kernel_rfl) (fun _ _ _ h => h) (Or.inl ⟨by rfl, ?hq22⟩) (unhide HS0) ?_
  case hq22 => (intro w hSw; (try dsimp only at hSw); go_simp) <;> with_reducible rfl
  simp only [Act.put, List.getElem_toArray, List.getElem_cons_zero, List.getElem_cons_succ, List.setIfInBounds_toArray, List.set_cons_zero, List.set_cons_succ]
  refine anyL_take (i := 14) (v := ?vq23) rfl (by kernel_rfl) (by kernel_rfl) (by kernel_rfl) (by kernel_rfl) (fun _ _ _ h => h) (Or.inl ⟨by rfl, ?hq23⟩) (unhide HS0) ?_
  case hq23 => (intro w hSw; (try dsimp only at hSw); go_simp) <;> with_reducible rfl
  simp only [Act.put, List.getElem_toArray, List.getElem_cons_zero, List.getElem_cons_succ, List.setIfInBounds_toArray, List.set_cons_zero, List.set_cons_succ]
  refine anyL_take (i := 15) (v := ?vq24) rfl (by kernel_rfl) (by kernel_rfl) (by kernel_rfl) (by kernel_rfl) (fun _ _ _ h => h) (Or.inl ⟨by rfl, ?hq24⟩) (unhide HS0) ?_
  case hq24 => (intro w hSw; (try dsimp only at hSw); go_simp) <;> with_reducible rfl
  simp only [Act.put, List.getElem_toArray, List.getElem_cons_zero, List.getElem_cons_succ, List.setIfInBounds_toArray, List.set_cons_zero, List.set_cons_succ]
  refine anyL_take (i := 16) (v := ?vq25) rfl (by kernel_rfl) (by kernel_rfl) (by kernel_rfl) (by kernel_rfl) (fun _ _ _ h => h) (Or.inl ⟨by rfl, ?hq25⟩) (unhide HS0) ?_
  case hq25 => (intro w hSw; (try dsimp only at hSw); go_simp) <;> with_reducible rfl
  simp only [Act.put, List.getElem_toArray, List.getElem_cons_zero, List.getElem_cons_succ, List.setIfInBounds_toArray, List.set_cons_zero, List.set_cons_succ]
  refine anyL_take (i := 17) (v := ?vq26) rfl (by kernel_rfl) (by kernel_rfl) (by kernel_rfl) (by kernel_rfl) (fun _ _ _ h => h) (Or.inl ⟨by rfl, ?hq26⟩) (unhide HS0) ?_
  case hq26 => (intro w hSw; (try dsimp only at hSw); go_simp) <;> with_reducible rfl
  simp only [Act.put, List.getElem_toArray, List.getElem_cons_zero, List.getElem_cons_succ, List.setIfInBounds_toArray, List.set_cons_zero, List.set_cons_succ]
  refine anyL_take (i := 18) (v := ?vq27) rfl (by kernel_rfl) (by kernel_rfl) (by kernel_rfl) (by kernel_rfl) (fun _ _ _ h => h) (Or.inl ⟨by rfl, ?hq27⟩) (unhide HS0) ?_
  case hq27 => (intro w hSw; (try dsimp only at hSw); go_simp) <;> with_reducible rfl
  simp only [Act.put, List.getElem_toArray, List.getElem_cons_zero, List.getElem_cons_succ, List.setIfInBounds_toArray, List.set_cons_zero, List.set_cons_succ]
  refine anyL_done (by kernel_rfl) ?_ _
  go_wp2_with fail
  refine bodyPost_ret (v := .tuple #[.string (strOfNums (h ++ t.drop o)), .bool (decide (h.drop m = t.take o))]) (by simp [results, Tryd.results17, go_sem]) rfl ⟨rfl, b1⟩

theorem sz_ifs {α : Type} (x y : Sz) (T F : α) : (if x.b = y.b then if x.r = y.r then if x.u = y.u then if x.e = y.e then T else F else F else F else F) = if x = y then T else F := by
  obtain ⟨b, r, u, e⟩ := x
  obtain ⟨b', r', u', e'⟩ := y
  simp only [Sz.mk.injEq]
  repeat' split
  all_goals first | rfl | (exfalso; simp_all)
set_option maxRecDepth 100000 in
set_option maxHeartbeats 2000000 in
theorem RValid_told (n : Nat) (r u e : Int) (h t s : List Int) (k : Bool) (w : World) (hs : ∀ x ∈ s, 0 ≤ x ∧ x ≤ 255) (ls : s.length ≤ 6) (hn : n ≤ 6) (lh : h.length = min 3 n) (lt : t.length = min 3 n)
    (HA : Hid (∀ W, Calls Tryd.prog 17 #[.agg #[.int .i64 (n : Int), .int .i64 r, .int .i64 u, .int .i64 e, .string (strOfNums h), .string (strOfNums t)]] W fun x w' => x = .returned (.tuple #[.string (strOfNums s), .bool k]) ∧ Below W.heap.size W w')) :
    Calls Tryd.prog 7 #[.agg #[.int .i64 (n : Int), .int .i64 r, .int .i64 u, .int .i64 e, .string (strOfNums h), .string (strOfNums t)]] w fun x w' => x = .returned (.bool (k && decide (szL s = (⟨(n : Int), r, u, e⟩ : Sz)))) ∧ Below w.heap.size w w' := by
  have b0 : Below w.heap.size w ((w.alloc (.cells #[.int .i64 (n : Int), .int .i64 r, .int .i64 u, .int .i64 e, .string (strOfNums h), .string (strOfNums t)] 25)).alloc (.cells #[.int .i64 (n : Int), .int .i64 r, .int .i64 u, .int .i64 e] 23)) := ((Below.refl _ _).alloc (Nat.le_refl _) _).alloc (by simp) _
  have zz : (w.alloc (.cells #[.int .i64 (n : Int), .int .i64 r, .int .i64 u, .int .i64 e, .string (strOfNums h), .string (strOfNums t)] 25)).heap.size = w.heap.size + 1 := World.size_alloc ..
  have gz := push_get (w.alloc (.cells #[.int .i64 (n : Int), .int .i64 r, .int .i64 u, .int .i64 e, .string (strOfNums h), .string (strOfNums t)] 25)) (.cells #[.int .i64 (n : Int), .int .i64 r, .int .i64 u, .int .i64 e] 23)
  rw [zz] at gz
  have ga : ((w.alloc (.cells #[.int .i64 (n : Int), .int .i64 r, .int .i64 u, .int .i64 e, .string (strOfNums h), .string (strOfNums t)] 25)).alloc (.cells #[.int .i64 (n : Int), .int .i64 r, .int .i64 u, .int .i64 e] 23)).heap[w.heap.size]? = _ := (heap_alloc_old _ _ (by omega)).trans (push_get w (.cells #[.int .i64 (n : Int), .int .i64 r, .int .i64 u, .int .i64 e, .string (strOfNums h), .string (strOfNums t)] 25))
  obtain ⟨c0, c1, c2, c3, c4, c5, _⟩ := cells6 ga
  obtain ⟨k0, k1, k2, k3, c6, c7, _⟩ := cells6 (push_get w (.cells #[.int .i64 (n : Int), .int .i64 r, .int .i64 u, .int .i64 e, .string (strOfNums h), .string (strOfNums t)] 25))
  obtain ⟨d0, d1, d2, d3, _⟩ := cells4 gz
  have q1 : ¬ ((n : Int) < 0) := by omega
  have q2 : ¬ ((268435456 : Int) < (n : Int)) := by omega
  have q3 : (n : Int) ≤ 6 := by omega
  obtain ⟨m, hm⟩ : ∃ m, m = min 3 n := ⟨_, rfl⟩
  have hmi : min (3 : Int) (n : Int) = (m : Int) := by omega
  rw [← hm] at lh lt
  have zh : (strOfNums h).size = m := (strOfNums_size h).trans lh
  have zt : (strOfNums t).size = m := (strOfNums_size t).trans lt
  clear hm lh lt hn
  go_enter Tryd.func7, Tryd.ntmps7
  go_wp2_with fail
  refine (unhide HA _).mono ?_
  rintro x wx ⟨rfl, bx⟩
  dsimp only
  have zb : w.heap.size + 1 < ((w.alloc (.cells #[.int .i64 (n : Int), .int .i64 r, .int .i64 u, .int .i64 e, .string (strOfNums h), .string (strOfNums t)] 25)).alloc (.cells #[.int .i64 (n : Int), .int .i64 r, .int .i64 u, .int .i64 e] 23)).heap.size := by rw [World.size_alloc, zz]; omega
  have gx := (bx.block (w.heap.size + 1) zb).trans gz
  have b1 : Below w.heap.size w wx.drew := Below.drewN (b0.trans (bx.mono b0.size)) 1
  obtain ⟨x0, x1, x2, x3, _⟩ := cells4 gx
  have zd : w.heap.size + 1 < wx.drew.heap.size := Nat.lt_of_lt_of_le zb bx.size
  have HS0 : Hid (wx.drew.cell? ⟨(w.heap.size + 1), 0, none⟩ = some (.int .i64 (n : Int)) ∧ wx.drew.cell? ⟨(w.heap.size + 1), 1, none⟩ = some (.int .i64 r) ∧ wx.drew.cell? ⟨(w.heap.size + 1), 2, none⟩ = some (.int .i64 u) ∧ wx.drew.cell? ⟨(w.heap.size + 1), 3, none⟩ = some (.int .i64 e)) := hide ⟨x0, x1, x2, x3⟩
  clear c0 c1 c2 c3 c4 c5 k0 k1 k2 k3 c6 c7 d0 d1 d2 d3 x0 x1 x2 x3 gx gz ga zz b0 bx zb
  go_upto_region 6 with fail
  cases k with
  | true =>
    refine regionL (S := fun w' => w'.cell? ⟨(w.heap.size + 1), 0, none⟩ = some (.int .i64 (n : Int)) ∧ w'.cell? ⟨(w.heap.size + 1), 1, none⟩ = some (.int .i64 r) ∧ w'.cell? ⟨(w.heap.size + 1), 2, none⟩ = some (.int .i64 u) ∧ w'.cell? ⟨(w.heap.size + 1), 3, none⟩ = some (.int .i64 e)) (fun _ => false) (by kernel_rfl) ?_
    generalize wx.drew = wd at *
    refine anyL_take (i := 0) (v := ?vq28) rfl (by kernel_rfl) (by kernel_rfl) (by kernel_rfl) (by kernel_rfl) (fun _ _ _ h => h) (Or.inl ⟨by rfl, ?hq28⟩) (unhide HS0) ?_
    case hq28 => (intro w hSw; (try dsimp only at hSw); go_simp) <;> with_reducible rfl
    simp only [Act.put, List.getElem_toArray, List.getElem_cons_zero, List.setIfInBounds_toArray, List.set_cons_zero, List.set_cons_succ]
    refine anyL_take (i := 1) (v := ?vq29) rfl (by kernel_rfl) (by kernel_rfl) (by kernel_rfl) (by kernel_rfl) (fun _ _ _ h => h) (Or.inl ⟨by rfl, ?hq29⟩) (unhide HS0) ?_
    case hq29 => (intro w hSw; (try dsimp only at hSw); go_simp) <;> with_reducible rfl
    simp only [Act.put, List.getElem_toArray, List.getElem_cons_zero, List.getElem_cons_succ, List.setIfInBounds_toArray, List.set_cons_zero, List.set_cons_succ]
    refine anyL_take (i := 2) (v := ?vq30) rfl (by kernel_rfl) (by kernel_rfl) (by kernel_rfl) (by kernel_rfl) (fun _ _ _ h => h) (Or.inl ⟨by rfl, ?hq30⟩) (unhide HS0) ?_
    case hq30 => (intro w hSw; (try dsimp only at hSw); go_simp) <;> with_reducible rfl
    simp only [Act.put, List.getElem_toArray, List.getElem_cons_zero, List.getElem_cons_succ, List.setIfInBounds_toArray, List.set_cons_zero, List.set_cons_succ]
    refine anyL_take (i := 5) (v := ?vq31) rfl (by kernel_rfl) (by kernel_rfl) (by kernel_rfl) (by kernel_rfl) (fun _ _ _ h => h) (Or.inl ⟨by rfl, ?hq31⟩) (unhide HS0) ?_
    case hq31 => (intro w hSw; (try dsimp only at hSw); go_simp) <;> with_reducible rfl
    simp only [Act.put, List.getElem_toArray, List.getElem_cons_zero, List.getElem_cons_succ, List.setIfInBounds_toArray, List.set_cons_zero, List.set_cons_succ]
    refine anyL_ready (rs := [3]) (by kernel_rfl) (by simp) ?_
    refine AllL.cons rfl (fun K hK => ?_) AllL.nil
    obtain ⟨cc, w3, r3, i3, b3, _⟩ := toBytes wd s hs (by omega)
    go_simp
    have HS3 : Hid (w3.cell? ⟨(w.heap.size + 1), 0, none⟩ = some (.int .i64 (n : Int)) ∧ w3.cell? ⟨(w.heap.size + 1), 1, none⟩ = some (.int .i64 r) ∧ w3.cell? ⟨(w.heap.size + 1), 2, none⟩ = some (.int .i64 u) ∧ w3.cell? ⟨(w.heap.size + 1), 3, none⟩ = some (.int .i64 e)) := hide ⟨(b3.cell (p := ⟨w.heap.size + 1, 0, none⟩) zd).trans (unhide HS0).1, (b3.cell (p := ⟨w.heap.size + 1, 1, none⟩) zd).trans (unhide HS0).2.1, (b3.cell (p := ⟨w.heap.size + 1, 2, none⟩) zd).trans (unhide HS0).2.2.1, (b3.cell (p := ⟨w.heap.size + 1, 3, none⟩) zd).trans (unhide HS0).2.2.2⟩
    have bb3 := b1.trans (b3.mono b1.size)
    have z3 := b3.size
    refine unhide hK _ _ (fun _ => unhide HS3) ?_
    clear hK K r3 b3
    refine anyL_ready (rs := [4]) (by kernel_rfl) (by simp) ?_
    refine AllL.cons rfl (fun K hK => ?_) AllL.nil
    go_simp
    refine (RSizes_at _ cc s w3 i3.1 (by omega)).mono ?_
    unfold szV
    rintro x w4 ⟨rfl, b4⟩
    have HS4 : Hid (w4.cell? ⟨(w.heap.size + 1), 0, none⟩ = some (.int .i64 (n : Int)) ∧ w4.cell? ⟨(w.heap.size + 1), 1, none⟩ = some (.int .i64 r) ∧ w4.cell? ⟨(w.heap.size + 1), 2, none⟩ = some (.int .i64 u) ∧ w4.cell? ⟨(w.heap.size + 1), 3, none⟩ = some (.int .i64 e)) := hide ⟨(b4.cell (p := ⟨w.heap.size + 1, 0, none⟩) (by show w.heap.size + 1 < w3.heap.size; omega)).trans (unhide HS3).1, (b4.cell (p := ⟨w.heap.size + 1, 1, none⟩) (by show w.heap.size + 1 < w3.heap.size; omega)).trans (unhide HS3).2.1, (b4.cell (p := ⟨w.heap.size + 1, 2, none⟩) (by show w.heap.size + 1 < w3.heap.size; omega)).trans (unhide HS3).2.2.1, (b4.cell (p := ⟨w.heap.size + 1, 3, none⟩) (by show w.heap.size + 1 < w3.heap.size; omega)).trans (unhide HS3).2.2.2⟩
    have bb4 := bb3.trans (b4.mono bb3.size)
    dsimp only
    refine unhide hK _ _ (fun _ => unhide HS4) ?_
    clear hK K
    refine anyL_take (i := 6) (v := .bool (decide (szL s = (⟨(n : Int), r, u, e⟩ : Sz)))) rfl (by kernel_rfl) (by kernel_rfl) (by kernel_rfl) (by kernel_rfl) (fun _ _ _ h => h) (Or.inl ⟨by rfl, ?gsz⟩) (unhide HS4) ?_
    case gsz =>
      intro w hSw
      go_simp
      refine (sz_ifs (szL s) (⟨(n : Int), r, u, e⟩ : Sz) _ _).trans ?_
      by_cases hxy : szL s = (⟨(n : Int), r, u, e⟩ : Sz)
      · rw [if_pos hxy, decide_eq_true hxy]
      · rw [if_neg hxy, decide_eq_false hxy]
    simp only [Act.put, List.getElem_toArray, List.getElem_cons_zero, List.getElem_cons_succ, List.setIfInBounds_toArray, List.set_cons_zero, List.set_cons_succ]
    refine anyL_take (i := 7) (v := ?vq32) rfl (by kernel_rfl) (by kernel_rfl) (by kernel_rfl) (by kernel_rfl) (fun _ _ _ h => h) (Or.inl ⟨by rfl, ?hq32⟩) (unhide HS4) ?_
    case hq32 => (intro w hSw; (try dsimp only at hSw); go_simp) <;> with_reducible rfl
    simp only [Act.put, List.getElem_toArray, List.getElem_cons_zero, List.getElem_cons_succ, List.setIfInBounds_toArray, List.set_cons_zero, List.set_cons_succ]
    refine anyL_take (i := 8) (v := ?vq33) rfl (by kernel_rfl) (by kernel_rfl) (by kernel_rfl) (by kernel_rfl) (fun _ _ _ h => h) (Or.inl ⟨by rfl, ?hq33⟩) (unhide HS4) ?_
    case hq33 => (intro w hSw; (try dsimp only at hSw); go_simp) <;> with_reducible rfl
    simp only [Act.put, List.getElem_toArray, List.getElem_cons_zero, List.getElem_cons_succ, List.setIfInBounds_toArray, List.set_cons_zero, List.set_cons_succ]
    refine anyL_done (by kernel_rfl) ?_ _
    go_wp2_with fail
    go_ret
    exact ⟨by simp, bb4⟩
  | false =>
    refine regionL (S := fun w' => w'.cell? ⟨(w.heap.size + 1), 0, none⟩ = some (.int .i64 (n : Int)) ∧ w'.cell? ⟨(w.heap.size + 1), 1, none⟩ = some (.int .i64 r) ∧ w'.cell? ⟨(w.heap.size + 1), 2, none⟩ = some (.int .i64 u) ∧ w'.cell? ⟨(w.heap.size + 1), 3, none⟩ = some (.int .i64 e)) (fun _ => false) (by kernel_rfl) ?_
    generalize wx.drew = wd at *
    refine anyL_take (i := 0) (v := ?vq34) rfl (by kernel_rfl) (by kernel_rfl) (by kernel_rfl) (by kernel_rfl) (fun _ _ _ h => h) (Or.inl ⟨by rfl, ?hq34⟩) (unhide HS0) ?_
    case hq34 => (intro w hSw; (try dsimp only at hSw); go_simp) <;> with_reducible rfl
    simp only [Act.put, List.getElem_toArray, List.getElem_cons_zero, List.setIfInBounds_toArray, List.set_cons_zero, List.set_cons_succ]
    refine anyL_take (i := 1) (v := ?vq35) rfl (by kernel_rfl) (by kernel_rfl) (by kernel_rfl) (by kernel_rfl) (fun _ _ _ h => h) (Or.inl ⟨by rfl, ?hq35⟩) (unhide HS0) ?_
    case hq35 => (intro w hSw; (try dsimp only at hSw); go_simp) <;> with_reducible rfl
    simp only [Act.put, List.getElem_toArray, List.getElem_cons_zero, List.getElem_cons_succ, List.setIfInBounds_toArray, List.set_cons_zero, List.set_cons_succ]
    refine anyL_take (i := 2) (v := undef) rfl (by kernel_rfl) (by kernel_rfl) (by kernel_rfl) (by kernel_rfl) (fun _ _ _ h => h) (Or.inr ⟨by rfl, rfl⟩) (unhide HS0) ?_
    simp only [Act.put, List.getElem_toArray, List.getElem_cons_zero, List.getElem_cons_succ, List.setIfInBounds_toArray, List.set_cons_zero, List.set_cons_succ]
    refine anyL_take (i := 3) (v := undef) rfl (by kernel_rfl) (by kernel_rfl) (by kernel_rfl) (by kernel_rfl) (fun _ _ _ h => h) (Or.inr ⟨by rfl, rfl⟩) (unhide HS0) ?_
    simp only [Act.put, List.getElem_toArray, List.getElem_cons_zero, List.getElem_cons_succ, List.setIfInBounds_toArray, List.set_cons_zero, List.set_cons_succ]
    refine anyL_take (i := 4) (v := undef) rfl (by kernel_rfl) (by kernel_rfl) (by kernel_rfl) (by kernel_rfl) (fun _ _ _ h => h) (Or.inr ⟨by rfl, rfl⟩) (unhide HS0) ?_
    simp only [Act.put, List.getElem_toArray, List.getElem_cons_zero, List.getElem_cons_succ, List.setIfInBounds_toArray, List.set_cons_zero, List.set_cons_succ]
    refine anyL_take (i := 5) (v := undef) rfl (by kernel_rfl) (by kernel_rfl) (by kernel_rfl) (by kernel_rfl) (fun _ _ _ h => h) (Or.inr ⟨by rfl, rfl⟩) (unhide HS0) ?_
    simp only [Act.put, List.getElem_toArray, List.getElem_cons_zero, List.getElem_cons_succ, List.setIfInBounds_toArray, List.set_cons_zero, List.set_cons_succ]
    refine anyL_take (i := 6) (v := undef) rfl (by kernel_rfl) (by kernel_rfl) (by kernel_rfl) (by kernel_rfl) (fun _ _ _ h => h) (Or.inr ⟨by rfl, rfl⟩) (unhide HS0) ?_
    simp only [Act.put, List.getElem_toArray, List.getElem_cons_zero, List.getElem_cons_succ, List.setIfInBounds_toArray, List.set_cons_zero, List.set_cons_succ]
    refine anyL_take (i := 7) (v := ?vq41) rfl (by kernel_rfl) (by kernel_rfl) (by kernel_rfl) (by kernel_rfl) (fun _ _ _ h => h) (Or.inl ⟨by rfl, ?hq41⟩) (unhide HS0) ?_
    case hq41 => (intro w hSw; (try dsimp only at hSw); go_simp) <;> with_reducible rfl
    simp only [Act.put, List.getElem_toArray, List.getElem_cons_zero, List.getElem_cons_succ, List.setIfInBounds_toArray, List.set_cons_zero, List.set_cons_succ]
    refine anyL_take (i := 8) (v := ?vq42) rfl (by kernel_rfl) (by kernel_rfl) (by kernel_rfl) (by kernel_rfl) (fun _ _ _ h => h) (Or.inl ⟨by rfl, ?hq42⟩) (unhide HS0) ?_
    case hq42 => (intro w hSw; (try dsimp only at hSw); go_simp) <;> with_reducible rfl
    simp only [Act.put, List.getElem_toArray, List.getElem_cons_zero, List.getElem_cons_succ, List.setIfInBounds_toArray, List.set_cons_zero, List.set_cons_succ]
    refine anyL_done (by kernel_rfl) ?_ _
    go_wp2_with fail
    go_ret
    exact ⟨by simp, b1⟩

theorem may_iff (z : Sz) : mayB z = (decide (0 ≤ z.r ∧ z.r ≤ z.b ∧ z.r ≤ z.u ∧ z.u ≤ 2 * z.r) && (decide (z.r - (z.u - z.r) ≤ z.b - 4 * (z.u - z.r)) && (decide (z.b - 4 * (z.u - z.r) ≤ 3 * (z.r - (z.u - z.r))) && (decide (0 ≤ z.e) && decide (z.e ≤ z.r))))) := by
  unfold mayB
  rw [Bool.eq_iff_iff]
  simp only [Bool.and_eq_true, decide_eq_true_eq]
  omega
set_option maxRecDepth 100000 in
set_option maxHeartbeats 4000000 in
theorem RValid_may (n : Nat) (r u e : Int) (h t : List Int) (w : World) (hn : 6 < n) (hm : n ≤ 268435456) (lh : h.length = 3) (lt : t.length = 3) :
    Calls Tryd.prog 7 #[.agg #[.int .i64 (n : Int), .int .i64 r, .int .i64 u, .int .i64 e, .string (strOfNums h), .string (strOfNums t)]] w fun x w' => x = .returned (.bool (mayB ⟨(n : Int), r, u, e⟩)) ∧ Below w.heap.size w w' := by
  have b0 : Below w.heap.size w ((w.alloc (.cells #[.int .i64 (n : Int), .int .i64 r, .int .i64 u, .int .i64 e, .string (strOfNums h), .string (strOfNums t)] 25)).alloc (.cells #[.int .i64 (n : Int), .int .i64 r, .int .i64 u, .int .i64 e] 23)) := ((Below.refl _ _).alloc (Nat.le_refl _) _).alloc (by simp) _
  have zz : (w.alloc (.cells #[.int .i64 (n : Int), .int .i64 r, .int .i64 u, .int .i64 e, .string (strOfNums h), .string (strOfNums t)] 25)).heap.size = w.heap.size + 1 := World.size_alloc ..
  have gz := push_get (w.alloc (.cells #[.int .i64 (n : Int), .int .i64 r, .int .i64 u, .int .i64 e, .string (strOfNums h), .string (strOfNums t)] 25)) (.cells #[.int .i64 (n : Int), .int .i64 r, .int .i64 u, .int .i64 e] 23)
  rw [zz] at gz
  have ga : ((w.alloc (.cells #[.int .i64 (n : Int), .int .i64 r, .int .i64 u, .int .i64 e, .string (strOfNums h), .string (strOfNums t)] 25)).alloc (.cells #[.int .i64 (n : Int), .int .i64 r, .int .i64 u, .int .i64 e] 23)).heap[w.heap.size]? = _ := (heap_alloc_old _ _ (by omega)).trans (push_get w (.cells #[.int .i64 (n : Int), .int .i64 r, .int .i64 u, .int .i64 e, .string (strOfNums h), .string (strOfNums t)] 25))
  obtain ⟨c0, c1, c2, c3, c4, c5, _⟩ := cells6 ga
  obtain ⟨k0, k1, k2, k3, c6, c7, _⟩ := cells6 (push_get w (.cells #[.int .i64 (n : Int), .int .i64 r, .int .i64 u, .int .i64 e, .string (strOfNums h), .string (strOfNums t)] 25))
  obtain ⟨d0, d1, d2, d3, _⟩ := cells4 gz
  have q1 : ¬ ((n : Int) < 0) := by omega
  have q2 : ¬ ((268435456 : Int) < (n : Int)) := by omega
  have q3 : ¬ ((n : Int) ≤ 6) := by omega
  have hmi : min (3 : Int) (n : Int) = 3 := by omega
  have zh : (strOfNums h).size = 3 := (strOfNums_size h).trans lh
  have zt : (strOfNums t).size = 3 := (strOfNums_size t).trans lt
  rw [may_iff]
  dsimp only
  clear lh lt gz ga
  go_enter Tryd.func7, Tryd.ntmps7
  by_cases j1 : r < 0
  · rw [decide_eq_false (p := 0 ≤ r ∧ _) (by omega), Bool.false_and]
    go_wp2_with fail
    go_ret
    exact ⟨rfl, b0⟩
  by_cases j2 : (n : Int) < r
  · rw [decide_eq_false (p := 0 ≤ r ∧ _) (by omega), Bool.false_and]
    go_wp2_with fail
    go_ret
    exact ⟨rfl, b0⟩
  by_cases j3 : u < r
  · rw [decide_eq_false (p := 0 ≤ r ∧ _) (by omega), Bool.false_and]
    go_wp2_with fail
    go_ret
    exact ⟨rfl, b0⟩
  have hw2 : IntKind.i64.wrap (2 * r) = 2 * r := by rw [IntKind.wrap_i64]; omega
  by_cases j4 : 2 * r < u
  · rw [decide_eq_false (p := 0 ≤ r ∧ _) (by omega), Bool.false_and]
    go_wp2_with fail
    go_ret
    exact ⟨rfl, b0⟩
  rw [decide_eq_true (p := 0 ≤ r ∧ _) (by omega), Bool.true_and]
  have hq : IntKind.i64.wrap (u - r) = u - r := by rw [IntKind.wrap_i64]; omega
  obtain ⟨q, hqq⟩ : ∃ q, q = u - r := ⟨_, rfl⟩
  rw [← hqq] at hq ⊢
  have hone : IntKind.i64.wrap (r - q) = r - q := by rw [IntKind.wrap_i64]; omega
  have hl4 : IntKind.i64.wrap (4 * q) = 4 * q := by rw [IntKind.wrap_i64]; omega
  have hleft : IntKind.i64.wrap ((n : Int) - 4 * q) = (n : Int) - 4 * q := by rw [IntKind.wrap_i64]; omega
  have h3o : IntKind.i64.wrap (3 * (r - q)) = 3 * (r - q) := by rw [IntKind.wrap_i64]; omega
  have hqi : u - r = q := hqq.symm
  clear hqq
  have HJ := hide (And.intro j1 j2)
  by_cases j5 : r - q ≤ (n : Int) - 4 * q
  · rw [decide_eq_true j5, Bool.true_and]
    by_cases j6 : (n : Int) - 4 * q ≤ 3 * (r - q)
    · rw [decide_eq_true j6, Bool.true_and]
      by_cases j7 : 0 ≤ e
      · rw [decide_eq_true j7, Bool.true_and]
        go_wp2_with fail
        go_ret
        exact ⟨rfl, b0⟩
      · rw [decide_eq_false j7, Bool.false_and]
        go_wp2_with fail
        go_ret
        exact ⟨rfl, b0⟩
    · rw [decide_eq_false j6, Bool.false_and]
      go_wp2_with fail
      go_ret
      exact ⟨rfl, b0⟩
  · rw [decide_eq_false j5, Bool.false_and]
    go_wp2_with fail
    go_ret
    exact ⟨rfl, b0⟩

set_option maxRecDepth 100000 in
set_option maxHeartbeats 2000000 in
theorem RValid_at (x : We) (w : World) (hx : Byw x) :
    Calls Tryd.prog 7 #[weV x] w fun y w' => y = .returned (.bool (validB x)) ∧ Below w.heap.size w w' := by
  obtain ⟨⟨b, r, u, e⟩, h, t⟩ := x
  unfold weV validB
  dsimp only
  by_cases h1 : b < 0 ∨ 268435456 < b
  · rw [if_pos h1]
    have b0 : Below w.heap.size w ((w.alloc (.cells #[.int .i64 b, .int .i64 r, .int .i64 u, .int .i64 e, .string (strOfNums h), .string (strOfNums t)] 25)).alloc (.cells #[.int .i64 b, .int .i64 r, .int .i64 u, .int .i64 e] 23)) := ((Below.refl _ _).alloc (Nat.le_refl _) _).alloc (by simp) _
    have zz : (w.alloc (.cells #[.int .i64 b, .int .i64 r, .int .i64 u, .int .i64 e, .string (strOfNums h), .string (strOfNums t)] 25)).heap.size = w.heap.size + 1 := World.size_alloc ..
    have gz := push_get (w.alloc (.cells #[.int .i64 b, .int .i64 r, .int .i64 u, .int .i64 e, .string (strOfNums h), .string (strOfNums t)] 25)) (.cells #[.int .i64 b, .int .i64 r, .int .i64 u, .int .i64 e] 23)
    rw [zz] at gz
    obtain ⟨k0, k1, k2, k3, _, _, _⟩ := cells6 (push_get w (.cells #[.int .i64 b, .int .i64 r, .int .i64 u, .int .i64 e, .string (strOfNums h), .string (strOfNums t)] 25))
    obtain ⟨d0, _, _, _, _⟩ := cells4 gz
    clear gz
    go_enter Tryd.func7, Tryd.ntmps7
    rcases Int.lt_or_le b 0 with q | q
    · go_wp2_with fail
      go_ret
      exact ⟨rfl, b0⟩
    · have q2 : 268435456 < b := by omega
      go_wp2_with fail
      go_ret
      exact ⟨rfl, b0⟩
  · rw [if_neg h1]
    obtain ⟨n, rfl⟩ : ∃ n : Nat, b = (n : Int) := ⟨b.toNat, by omega⟩
    by_cases h2 : (h.length : Int) ≠ min (n : Int) 3 ∨ (t.length : Int) ≠ min (n : Int) 3
    · rw [if_pos h2]
      have HH2 := hide h2
      clear h2
      have b0 : Below w.heap.size w ((w.alloc (.cells #[.int .i64 (n : Int), .int .i64 r, .int .i64 u, .int .i64 e, .string (strOfNums h), .string (strOfNums t)] 25)).alloc (.cells #[.int .i64 (n : Int), .int .i64 r, .int .i64 u, .int .i64 e] 23)) := ((Below.refl _ _).alloc (Nat.le_refl _) _).alloc (by simp) _
      have zz : (w.alloc (.cells #[.int .i64 (n : Int), .int .i64 r, .int .i64 u, .int .i64 e, .string (strOfNums h), .string (strOfNums t)] 25)).heap.size = w.heap.size + 1 := World.size_alloc ..
      have gz := push_get (w.alloc (.cells #[.int .i64 (n : Int), .int .i64 r, .int .i64 u, .int .i64 e, .string (strOfNums h), .string (strOfNums t)] 25)) (.cells #[.int .i64 (n : Int), .int .i64 r, .int .i64 u, .int .i64 e] 23)
      rw [zz] at gz
      have ga : ((w.alloc (.cells #[.int .i64 (n : Int), .int .i64 r, .int .i64 u, .int .i64 e, .string (strOfNums h), .string (strOfNums t)] 25)).alloc (.cells #[.int .i64 (n : Int), .int .i64 r, .int .i64 u, .int .i64 e] 23)).heap[w.heap.size]? = _ := (heap_alloc_old _ _ (by omega)).trans (push_get w (.cells #[.int .i64 (n : Int), .int .i64 r, .int .i64 u, .int .i64 e, .string (strOfNums h), .string (strOfNums t)] 25))
      obtain ⟨c0, c1, c2, c3, c4, c5, _⟩ := cells6 ga
      obtain ⟨k0, k1, k2, k3, c6, c7, _⟩ := cells6 (push_get w (.cells #[.int .i64 (n : Int), .int .i64 r, .int .i64 u, .int .i64 e, .string (strOfNums h), .string (strOfNums t)] 25))
      obtain ⟨d0, d1, d2, d3, _⟩ := cells4 gz
      clear gz ga
      have q1 : ¬ ((n : Int) < 0) := by omega
      have q2 : ¬ ((268435456 : Int) < (n : Int)) := by omega
      obtain ⟨k, hk⟩ : ∃ k, k = min 3 n := ⟨_, rfl⟩
      have hmin : min (3 : Int) (n : Int) = (k : Int) := by omega
      have hsh : (strOfNums h).size = h.length := strOfNums_size h
      have hst : (strOfNums t).size = t.length := strOfNums_size t
      go_enter Tryd.func7, Tryd.ntmps7
      by_cases q3 : h.length = k
      · have q4 : ¬ t.length = k := by have := unhide HH2; omega
        have q5 : ((t.length : Int) != (k : Int)) = true := by rw [bne_iff_ne]; omega
        have q6 : ((h.length : Int) != (k : Int)) = false := by rw [bne_eq_false_iff_eq]; omega
        clear hk q3 h1
        go_wp2_with fail
        go_ret
        exact ⟨rfl, b0⟩
      · have q5 : ((h.length : Int) != (k : Int)) = true := by rw [bne_iff_ne]; omega
        clear hk h1
        go_wp2_with fail
        go_ret
        exact ⟨rfl, b0⟩
    · rw [if_neg h2]
      have e1 : h.length = min 3 n := by omega
      have e2 : t.length = min 3 n := by omega
      by_cases h6 : (n : Int) ≤ 6
      · rw [if_pos h6, Int.toNat_natCast]
        rcases Nat.lt_or_ge 3 n with h3 | h3
        · have := RValid_told n r u e h t (h ++ t.drop (6 - n)) (decide (h.drop (n - 3) = t.take (6 - n))) w (fun x hm => (List.mem_append.1 hm).elim (hx.h x) (fun hm => hx.t x (List.mem_of_mem_drop hm))) (by simp; omega) (by omega) e1 e2 (hide fun W => Rall_some n r u e h t W hx.h hx.t h3 (by omega) (by omega) (by omega))
          rw [← told_some h3 (by omega) (by omega) (by omega)] at this
          rwa [← Bool.decide_and, ← decide_eq_decide.2 (some_iff h3 (by omega) (by omega) (by omega))] at this
        · have := RValid_told n r u e h t h (decide (h = t)) w hx.h (by omega) (by omega) e1 e2 (hide fun W => Rall_few n r u e h t W hx.h hx.t h3)
          have e3 := few_iff (z := ⟨(n : Int), r, u, e⟩) (t := t) h3 (by omega : h.length = n)
          rw [told_few (t := t) (by omega : h.length = n)] at e3 ⊢
          rwa [← Bool.decide_and, ← decide_eq_decide.2 e3] at this
      · rw [if_neg h6]
        exact RValid_may n r u e h t w (by omega) (by omega) (by omega) (by omega)
end Go.Proofs.YtchlnphapnafcaaDoor
end

section
namespace Go.Proofs.YtchlnphapnafcaaDoor
open Go.ChangeShapes Go.WideShapes Go.ChangeAt Go.RowKit

structure Sm (w : World) (gA gB gR gZ : Nat) (a b : We) (r u e : Int) (X : World) : Prop where
  A : X.heap[gA]? = some (.cells (wc a) 25 (0, 0))
  B : X.heap[gB]? = some (.cells (wc b) 25 (0, 0))
  R : H4 X gR 23 (.int .i64 0) (.int .i64 0) (.int .i64 0) (.int .i64 0)
  Z : H4 X gZ 23 (.int .i64 0) (.int .i64 r) (.int .i64 u) (.int .i64 e)
  D : Below w.heap.size w X
  G : (w.heap.size ≤ gA ∧ w.heap.size ≤ gB ∧ w.heap.size ≤ gR ∧ w.heap.size ≤ gZ) ∧ gA ≠ gZ ∧ gB ≠ gZ ∧ gR ≠ gZ
theorem Sm.on {w : World} {gA gB gR gZ : Nat} {a b : We} {r u e : Int} {X Y : World} (h : Sm w gA gB gR gZ a b r u e X) (hb : Below X.heap.size X Y) : Sm w gA gB gR gZ a b r u e Y :=
  ⟨(hb.block gA (Array.getElem?_eq_some_iff.1 h.A).1).trans h.A, (hb.block gB (Array.getElem?_eq_some_iff.1 h.B).1).trans h.B, h.R.on hb, h.Z.on hb, h.D.trans (hb.mono h.D.size), h.G⟩
theorem Sm.s1 {w : World} {gA gB gR gZ : Nat} {a b : We} {r u e : Int} {X : World} (h : Sm w gA gB gR gZ a b r u e X) (v : Int) : Sm w gA gB gR gZ a b v u e (X.setCell ⟨gZ, 1, none⟩ (.int .i64 v)) :=
  ⟨(set_other X _ h.G.2.1).trans h.A, (set_other X _ h.G.2.2.1).trans h.B, h.R.other h.G.2.2.2, h.Z.set1 _, h.D.setCell (p := ⟨gZ, 1, none⟩) h.G.1.2.2.2 _, h.G⟩
theorem Sm.s2 {w : World} {gA gB gR gZ : Nat} {a b : We} {r u e : Int} {X : World} (h : Sm w gA gB gR gZ a b r u e X) (v : Int) : Sm w gA gB gR gZ a b r v e (X.setCell ⟨gZ, 2, none⟩ (.int .i64 v)) :=
  ⟨(set_other X _ h.G.2.1).trans h.A, (set_other X _ h.G.2.2.1).trans h.B, h.R.other h.G.2.2.2, h.Z.set2 _, h.D.setCell (p := ⟨gZ, 2, none⟩) h.G.1.2.2.2 _, h.G⟩
theorem Sm.s3 {w : World} {gA gB gR gZ : Nat} {a b : We} {r u e : Int} {X : World} (h : Sm w gA gB gR gZ a b r u e X) (v : Int) : Sm w gA gB gR gZ a b r u v (X.setCell ⟨gZ, 3, none⟩ (.int .i64 v)) :=
  ⟨(set_other X _ h.G.2.1).trans h.A, (set_other X _ h.G.2.2.1).trans h.B, h.R.other h.G.2.2.2, h.Z.set3 _, h.D.setCell (p := ⟨gZ, 3, none⟩) h.G.1.2.2.2 _, h.G⟩
theorem Sm.two {w : World} {gA gB gR gZ : Nat} {a b : We} {r u e : Int} {X : World} (h : Sm w gA gB gR gZ a b r u e X) : X.cell? ⟨gA, 5, none⟩ = some (.string (strOfNums a.t)) ∧ X.cell? ⟨gB, 4, none⟩ = some (.string (strOfNums b.h)) := by
  obtain ⟨_, _, _, _, _, h5, _⟩ := cells6 h.A
  obtain ⟨_, _, _, _, h4, _, _⟩ := cells6 h.B
  exact ⟨h5, h4⟩
theorem Sm.ret {w : World} {gA gB gR gZ : Nat} {a b : We} {r u e : Int} {X : World} (h : Sm w gA gB gR gZ a b r u e X) :
    (X.cell? ⟨gZ, 0, none⟩ = some (.int .i64 0) ∧ X.cell? ⟨gZ, 1, none⟩ = some (.int .i64 r) ∧ X.cell? ⟨gZ, 2, none⟩ = some (.int .i64 u) ∧ X.cell? ⟨gZ, 3, none⟩ = some (.int .i64 e) ∧ ∀ i, X.frozen? ⟨gZ, i, none⟩ = false) ∧
    X.cell? ⟨gR, 0, none⟩ = some (.int .i64 0) ∧ X.cell? ⟨gR, 1, none⟩ = some (.int .i64 0) ∧ X.cell? ⟨gR, 2, none⟩ = some (.int .i64 0) ∧ X.cell? ⟨gR, 3, none⟩ = some (.int .i64 0) ∧ ∀ i, X.frozen? ⟨gR, i, none⟩ = false := ⟨h.Z.cells, h.R.cells⟩
theorem last_get {t : List Int} (h0 : 0 < t.length) : t.getLast? = some (t.getD (t.length - 1) 0) := by
  rw [List.getLast?_eq_getElem?, List.getD, List.getElem?_eq_getElem (by omega)]
  rfl
theorem head_get {t : List Int} (h0 : 0 < t.length) : t.head? = some (t.getD 0 0) := by
  cases t with
  | nil => cases h0
  | cons a r => rfl
theorem str_at (l : List Int) (hl : ∀ x ∈ l, 0 ≤ x ∧ x ≤ 255) {i : Nat} (hi : i < l.length) (h : i < (strOfNums l).size) : (((strOfNums l)[i]'h).toNat : Int) = l.getD i 0 := by
  have hb := hl _ (List.getElem_mem hi)
  have e : (strOfNums l)[i]'h = UInt8.ofNat (l[i]).toNat := by
    show ((strOfNums l).data[i]'h) = _
    simp [strOfNums]
  rw [e]
  simp [List.getD, List.getElem?_eq_getElem hi]
  omega

set_option maxRecDepth 100000 in
set_option maxHeartbeats 4000000 in
theorem Rseam_at (a b : We) (w : World) (ha : Byw a) (hb : Byw b) (h3 : a.t.length ≤ 3) (t3 : b.h.length ≤ 3) :
    Calls Tryd.prog 20 #[weV a, weV b] w fun y w' => y = .returned (szV (seamL a.t b.h)) ∧ Below w.heap.size w w' := by
  have HM : Hid (Sm w w.heap.size (w.heap.size + 1) (w.heap.size + 1 + 1) (w.heap.size + 1 + 1 + 1) a b 0 0 0 ((((w.alloc (.cells (wc a) 25)).alloc (.cells (wc b) 25)).alloc (.cells #[.int .i64 0, .int .i64 0, .int .i64 0, .int .i64 0] 23)).alloc (.cells #[.int .i64 0, .int .i64 0, .int .i64 0, .int .i64 0] 23))) := hide (by
    have za : (w.alloc (.cells (wc a) 25)).heap.size = w.heap.size + 1 := World.size_alloc ..
    have zb : ((w.alloc (.cells (wc a) 25)).alloc (.cells (wc b) 25)).heap.size = w.heap.size + 1 + 1 := by rw [World.size_alloc, za]
    have zr : (((w.alloc (.cells (wc a) 25)).alloc (.cells (wc b) 25)).alloc (.cells #[.int .i64 0, .int .i64 0, .int .i64 0, .int .i64 0] 23)).heap.size = w.heap.size + 1 + 1 + 1 := by rw [World.size_alloc, zb]
    refine ⟨?_, ?_, ?_, ?_, ((((Below.refl _ _).alloc (Nat.le_refl _) _).alloc (by omega) _).alloc (by omega) _).alloc (by omega) _, ⟨by omega, by omega, by omega, by omega⟩, by omega, by omega, by omega⟩
    · rw [heap_alloc_old _ _ (by omega), heap_alloc_old _ _ (by omega), heap_alloc_old _ _ (by omega)]
      exact push_get w _
    · rw [heap_alloc_old _ _ (by omega), heap_alloc_old _ _ (by omega)]
      have := push_get (w.alloc (.cells (wc a) 25)) (.cells (wc b) 25)
      rwa [za] at this
    · show (World.heap _)[_]? = _
      rw [heap_alloc_old _ _ (by omega)]
      have := push_get ((w.alloc (.cells (wc a) 25)).alloc (.cells (wc b) 25)) (.cells #[.int .i64 0, .int .i64 0, .int .i64 0, .int .i64 0] 23)
      rwa [zb] at this
    · have := push_get (((w.alloc (.cells (wc a) 25)).alloc (.cells (wc b) 25)).alloc (.cells #[.int .i64 0, .int .i64 0, .int .i64 0, .int .i64 0] 23)) (.cells #[.int .i64 0, .int .i64 0, .int .i64 0, .int .i64 0] 23)
      rwa [zr] at this)
  have HRES : Hid (∀ X, Sm w w.heap.size (w.heap.size + 1) (w.heap.size + 1 + 1) (w.heap.size + 1 + 1 + 1) a b (seamL a.t b.h).r (seamL a.t b.h).u (seamL a.t b.h).e X → True) := hide (fun _ _ => trivial)
  clear HRES
  obtain ⟨⟨ab, ar, au, ae⟩, ah, t⟩ := a
  obtain ⟨⟨bb, br, bu, be⟩, h, bt⟩ := b
  have HT : Hid (∀ x ∈ t, 0 ≤ x ∧ x ≤ 255) := hide ha.t
  have HH : Hid (∀ x ∈ h, 0 ≤ x ∧ x ≤ 255) := hide hb.h
  clear ha hb
  unfold weV wc at *
  dsimp only at *
  have hzt : (strOfNums t).size = t.length := strOfNums_size t
  have hzh : (strOfNums h).size = h.length := strOfNums_size h
  have HSC : Hid (∀ r u e X, Sm w w.heap.size (w.heap.size + 1) (w.heap.size + 1 + 1) (w.heap.size + 1 + 1 + 1) ⟨⟨ab, ar, au, ae⟩, ah, t⟩ ⟨⟨bb, br, bu, be⟩, h, bt⟩ r u e X → X.cell? ⟨w.heap.size, 5, none⟩ = some (.string (strOfNums t)) ∧ X.cell? ⟨w.heap.size + 1, 4, none⟩ = some (.string (strOfNums h))) := hide (fun _ _ _ _ h => h.two)
  go_enter Tryd.func20, Tryd.ntmps20
  go_wp2_with fail
  generalize w.heap.size + 1 + 1 + 1 = gZ at *
  generalize w.heap.size + 1 + 1 = gR at *
  generalize w.heap.size + 1 = gB at *
  generalize hgA : w.heap.size = gA at HM HSC ⊢
  clear hgA
  have HG : Hid (Sm w gA gB gR gZ ⟨⟨ab, ar, au, ae⟩, ah, t⟩ ⟨⟨bb, br, bu, be⟩, h, bt⟩ (zR t h 1 1) (zU t h 1 1) 0 _) := hide (by rw [zR_0, zU_0]; exact unhide HM)
  clear HM
  have HBY : Hid (∀ k j, ∀ x ∈ sp t h k j, 0 ≤ x ∧ x ≤ 255) := hide (fun k j x hm => (List.mem_append.1 hm).elim (fun hm => unhide HT x (List.mem_of_mem_drop hm)) (fun hm => unhide HH x (List.mem_of_mem_take hm)))
  go_loopw [6, 7, 8] (fun v v7 v8 wx => ∃ k : Nat, v = .int .i64 (k : Int) ∧ 1 ≤ k ∧ k ≤ t.length + 1 ∧ (∃ z, v7 = z) ∧ (∃ z, v8 = z) ∧ Hid (Sm w gA gB gR gZ ⟨⟨ab, ar, au, ae⟩, ah, t⟩ ⟨⟨bb, br, bu, be⟩, h, bt⟩ (zR t h k 1) (zU t h k 1) 0 wx)) (fun v _ _ _ => 5 - (intOf v).toNat)
  case atStart => exact ⟨1, rfl, Nat.le_refl _, by omega, ⟨_, rfl⟩, ⟨_, rfl⟩, HG⟩
  case round =>
    clear HG
    obtain ⟨k, rfl, k1, hk, ⟨_, rfl⟩, ⟨_, rfl⟩, HM⟩ := hrel
    obtain ⟨ct, ch⟩ := unhide HSC _ _ _ _ (unhide HM)
    by_cases hlt : k ≤ t.length
    · have q1 : (k : Int) ≤ (t.length : Int) := by omega
      go_wp2_with fail
      clear ct ch
      go_loopw [7, 8] (fun v v8 wx => ∃ j : Nat, v = .int .i64 (j : Int) ∧ 1 ≤ j ∧ j ≤ h.length + 1 ∧ (∃ z, v8 = z) ∧ Hid (Sm w gA gB gR gZ ⟨⟨ab, ar, au, ae⟩, ah, t⟩ ⟨⟨bb, br, bu, be⟩, h, bt⟩ (zR t h k j) (zU t h k j) 0 wx)) (fun v _ _ => 5 - (intOf v).toNat)
      case atStart => exact ⟨1, rfl, Nat.le_refl _, by omega, ⟨_, rfl⟩, HM⟩
      case round =>
        clear HM
        obtain ⟨j, rfl, j1, hj, ⟨_, rfl⟩, HM⟩ := hrel
        obtain ⟨ct, ch⟩ := unhide HSC _ _ _ _ (unhide HM)
        by_cases hlj : j ≤ h.length
        · have q2 : (j : Int) ≤ (h.length : Int) := by omega
          obtain ⟨d, hd⟩ : ∃ d, d = t.length - k := ⟨_, rfl⟩
          have hdi : (t.length : Int) - (k : Int) = (d : Int) := by omega
          have hdl : (d : Int) ≤ (t.length : Int) := by omega
          have hwd : IntKind.i64.wrap (d : Int) = (d : Int) := by rw [IntKind.wrap_i64]; omega
          have e1 : (strOfNums t).extract d t.length = strOfNums (t.drop d) := by rw [str_extract, List.take_of_length_le (by simp)]
          have e2 : (strOfNums h).extract 0 j = strOfNums (h.take j) := by rw [str_extract]; simp
          have hap : strOfNums (t.drop d) ++ strOfNums (h.take j) = strOfNums (sp t h k j) := by rw [str_app, hd]; rfl
          have hcat : ¬ 9223372036854775807 < (strOfNums (t.drop d)).size + (strOfNums (h.take j)).size := by rw [strOfNums_size, strOfNums_size]; simp; omega
          have HLN : Hid ((sp t h k j).length = k + j) := hide (sp_len hlt hlj)
          have hkj : IntKind.i64.wrap ((k : Int) + (j : Int)) = (k : Int) + (j : Int) := by rw [IntKind.wrap_i64]; omega
          have hkj1 : IntKind.i64.wrap ((k : Int) + (j : Int) - 1) = (k : Int) + (j : Int) - 1 := by rw [IntKind.wrap_i64]; omega
          have HD := hide hd
          clear hd
          go_upto_region 8 with fail
          have HM0 := (unhide HM).on ((Below.refl wr.heap.size wr).drew)
          have HS0 := hide (unhide HSC _ _ _ _ HM0)
          clear ct ch HM
          refine regionL (S := fun w' => w'.cell? ⟨gA, 5, none⟩ = some (.string (strOfNums t)) ∧ w'.cell? ⟨gB, 4, none⟩ = some (.string (strOfNums h))) (fun _ => false) (by kernel_rfl) ?_
          generalize wr.drew = y0 at *
          refine anyL_take (i := 0) (v := ?vq0) rfl (by kernel_rfl) (by kernel_rfl) (by kernel_rfl) (by kernel_rfl) (fun _ _ _ h => h) (Or.inl ⟨by rfl, ?hq0⟩) (unhide HS0) ?_
          case hq0 => (intro w hSw; (try dsimp only at hSw); go_simp) <;> with_reducible rfl
          simp only [Act.put, List.getElem_toArray, List.getElem_cons_zero, List.setIfInBounds_toArray, List.set_cons_zero, List.set_cons_succ]
          refine anyL_take (i := 1) (v := ?vq1) rfl (by kernel_rfl) (by kernel_rfl) (by kernel_rfl) (by kernel_rfl) (fun _ _ _ h => h) (Or.inl ⟨by rfl, ?hq1⟩) (unhide HS0) ?_
          case hq1 => (intro w hSw; (try dsimp only at hSw); go_simp) <;> with_reducible rfl
          simp only [Act.put, List.getElem_toArray, List.getElem_cons_zero, List.getElem_cons_succ, List.setIfInBounds_toArray, List.set_cons_zero, List.set_cons_succ]
          refine anyL_take (i := 2) (v := ?vq2) rfl (by kernel_rfl) (by kernel_rfl) (by kernel_rfl) (by kernel_rfl) (fun _ _ _ h => h) (Or.inl ⟨by rfl, ?hq2⟩) (unhide HS0) ?_
          case hq2 => (intro w hSw; (try dsimp only at hSw); go_simp) <;> with_reducible rfl
          simp only [Act.put, List.getElem_toArray, List.getElem_cons_zero, List.getElem_cons_succ, List.setIfInBounds_toArray, List.set_cons_zero, List.set_cons_succ]
          refine anyL_take (i := 3) (v := ?vq3) rfl (by kernel_rfl) (by kernel_rfl) (by kernel_rfl) (by kernel_rfl) (fun _ _ _ h => h) (Or.inl ⟨by rfl, ?hq3⟩) (unhide HS0) ?_
          case hq3 => (intro w hSw; (try dsimp only at hSw); go_simp) <;> with_reducible rfl
          simp only [Act.put, List.getElem_toArray, List.getElem_cons_zero, List.getElem_cons_succ, List.setIfInBounds_toArray, List.set_cons_zero, List.set_cons_succ]
          refine anyL_take (i := 4) (v := ?vq4) rfl (by kernel_rfl) (by kernel_rfl) (by kernel_rfl) (by kernel_rfl) (fun _ _ _ h => h) (Or.inl ⟨by rfl, ?hq4⟩) (unhide HS0) ?_
          case hq4 => (intro w hSw; (try dsimp only at hSw); go_simp) <;> with_reducible rfl
          simp only [Act.put, List.getElem_toArray, List.getElem_cons_zero, List.getElem_cons_succ, List.setIfInBounds_toArray, List.set_cons_zero, List.set_cons_succ]
          refine anyL_take (i := 5) (v := ?vq5) rfl (by kernel_rfl) (by kernel_rfl) (by kernel_rfl) (by kernel_rfl) (fun _ _ _ h => h) (Or.inl ⟨by rfl, ?hq5⟩) (unhide HS0) ?_
          case hq5 => (intro w hSw; (try dsimp only at hSw); go_simp) <;> with_reducible rfl
          simp only [Act.put, List.getElem_toArray, List.getElem_cons_zero, List.getElem_cons_succ, List.setIfInBounds_toArray, List.set_cons_zero, List.set_cons_succ]
          refine anyL_take (i := 6) (v := ?vq6) rfl (by kernel_rfl) (by kernel_rfl) (by kernel_rfl) (by kernel_rfl) (fun _ _ _ h => h) (Or.inl ⟨by rfl, ?hq6⟩) (unhide HS0) ?_
          case hq6 => (intro w hSw; (try dsimp only at hSw); go_simp) <;> with_reducible rfl
          simp only [Act.put, List.getElem_toArray, List.getElem_cons_zero, List.getElem_cons_succ, List.setIfInBounds_toArray, List.set_cons_zero, List.set_cons_succ]
          refine anyL_take (i := 7) (v := ?vq7) rfl (by kernel_rfl) (by kernel_rfl) (by kernel_rfl) (by kernel_rfl) (fun _ _ _ h => h) (Or.inl ⟨by rfl, ?hq7⟩) (unhide HS0) ?_
          case hq7 => (intro w hSw; (try dsimp only at hSw); go_simp) <;> with_reducible rfl
          simp only [Act.put, List.getElem_toArray, List.getElem_cons_zero, List.getElem_cons_succ, List.setIfInBounds_toArray, List.set_cons_zero, List.set_cons_succ]
          refine anyL_take (i := 8) (v := ?vq8) rfl (by kernel_rfl) (by kernel_rfl) (by kernel_rfl) (by kernel_rfl) (fun _ _ _ h => h) (Or.inl ⟨by rfl, ?hq8⟩) (unhide HS0) ?_
          case hq8 => (intro w hSw; (try dsimp only at hSw); go_simp) <;> with_reducible rfl
          simp only [Act.put, List.getElem_toArray, List.getElem_cons_zero, List.getElem_cons_succ, List.setIfInBounds_toArray, List.set_cons_zero, List.set_cons_succ]
          refine anyL_take (i := 9) (v := ?vq9) rfl (by kernel_rfl) (by kernel_rfl) (by kernel_rfl) (by kernel_rfl) (fun _ _ _ h => h) (Or.inl ⟨by rfl, ?hq9⟩) (unhide HS0) ?_
          case hq9 => (intro w hSw; (try dsimp only at hSw); go_simp) <;> with_reducible rfl
          simp only [Act.put, List.getElem_toArray, List.getElem_cons_zero, List.getElem_cons_succ, List.setIfInBounds_toArray, List.set_cons_zero, List.set_cons_succ]
          refine anyL_take (i := 10) (v := ?vq10) rfl (by kernel_rfl) (by kernel_rfl) (by kernel_rfl) (by kernel_rfl) (fun _ _ _ h => h) (Or.inl ⟨by rfl, ?hq10⟩) (unhide HS0) ?_
          case hq10 => (intro w hSw; (try dsimp only at hSw); go_simp) <;> with_reducible rfl
          simp only [Act.put, List.getElem_toArray, List.getElem_cons_zero, List.getElem_cons_succ, List.setIfInBounds_toArray, List.set_cons_zero, List.set_cons_succ]
          refine anyL_take (i := 11) (v := ?vq11) rfl (by kernel_rfl) (by kernel_rfl) (by kernel_rfl) (by kernel_rfl) (fun _ _ _ h => h) (Or.inl ⟨by rfl, ?hq11⟩) (unhide HS0) ?_
          case hq11 => (intro w hSw; (try dsimp only at hSw); go_simp) <;> with_reducible rfl
          simp only [Act.put, List.getElem_toArray, List.getElem_cons_zero, List.getElem_cons_succ, List.setIfInBounds_toArray, List.set_cons_zero, List.set_cons_succ]
          refine anyL_take (i := 12) (v := ?vq12) rfl (by kernel_rfl) (by kernel_rfl) (by kernel_rfl) (by kernel_rfl) (fun _ _ _ h => h) (Or.inl ⟨by rfl, ?hq12⟩) (unhide HS0) ?_
          case hq12 => (intro w hSw; (try dsimp only at hSw); go_simp) <;> with_reducible rfl
          simp only [Act.put, List.getElem_toArray, List.getElem_cons_zero, List.getElem_cons_succ, List.setIfInBounds_toArray, List.set_cons_zero, List.set_cons_succ]
          refine anyL_ready (rs := [13]) (by kernel_rfl) (by simp) ?_
          refine AllL.cons rfl (fun K hK => ?_) AllL.nil
          have hzlt : gZ < y0.heap.size := (Array.getElem?_eq_some_iff.1 HM0.Z).1
          obtain ⟨cc, y1, r1, i1, x1, hgs0⟩ := toBytes y0 (sp t h k j) (unhide HBY k j) (by rw [unhide HLN]; omega)
          go_simp
          have HM1 := HM0.on x1
          refine unhide hK _ _ (fun _ => unhide HSC _ _ _ _ HM1) ?_
          clear hK K r1 x1 HM0
          refine anyL_take (i := 14) (v := ?vq13) rfl (by kernel_rfl) (by kernel_rfl) (by kernel_rfl) (by kernel_rfl) (fun _ _ _ h => h) (Or.inl ⟨by rfl, ?hq13⟩) (unhide HSC _ _ _ _ HM1) ?_
          case hq13 => (intro w hSw; (try dsimp only at hSw); go_simp) <;> with_reducible rfl
          simp only [Act.put, List.getElem_toArray, List.getElem_cons_zero, List.getElem_cons_succ, List.setIfInBounds_toArray, List.set_cons_zero, List.set_cons_succ]
          refine anyL_done (by kernel_rfl) ?_ _
          have HI1 := hide i1
          clear i1
          have HLG : Hid (Calls Tryd.prog 31 #[.slice (some ⟨y0.heap.size, 0, none⟩) (sp t h k j).length cc, .int .i64 0] y1 fun e w' => e = .returned (.int .i64 (lng (sp t h k j))) ∧ w' = y1) := hide (Long_at (some ⟨y0.heap.size, 0, none⟩) cc 0 (sp t h k j) y1 (unhide HI1).1 (Nat.zero_le _))
          by_cases em : lng (sp t h k j) = k + j
          · have q3 : (((lng (sp t h k j) : Nat) : Int) == (k : Int) + (j : Int)) = true := by rw [beq_iff_eq]; omega
            obtain ⟨z1, z2⟩ := z_yes k1 hlt j1 em
            have HZ1 := hide z1
            have HZ2 := hide z2
            have HEM := hide em
            have HM2 := HM1.s1 ((k : Int) + (j : Int) - 1)
            obtain ⟨⟨d0, d1, d2, d3, f⟩, _⟩ := HM1.ret
            have f1 := f 1
            have hgs : y0.heap.size < y1.heap.size := hgs0
            have hgz : y0.heap.size ≠ gZ := Nat.ne_of_gt hzlt
            have HI2 : Hid (IsN (y1.setCell ⟨gZ, 1, none⟩ (.int .i64 ((k : Int) + (j : Int) - 1))) (some ⟨y0.heap.size, 0, none⟩) cc (sp t h k j)) := hide (isN_set (unhide HI1) hgz)
            clear f z1 z2 em
            generalize y0.heap.size = gs at *
            go_wp2_with fail
            refine (unhide HLG).mono ?_
            rintro x y1' ⟨rfl, rfl⟩
            dsimp only
            generalize y1' = y1 at *
            go_wp2_with fail
            generalize y1.setCell ⟨gZ, 1, none⟩ (.int .i64 ((k : Int) + (j : Int) - 1)) = y2 at *
            have hOF := RfOf_at (some ⟨gs, 0, none⟩) cc 0 (sp t h k j) y2 (unhide HI2).1 (by rw [unhide HLN]; omega)
            rw [List.drop_zero] at hOF
            refine hOF.mono ?_
            unfold stp stepV
            rintro x y3 ⟨rfl, x3⟩
            dsimp only
            clear hOF
            have HM3 := HM2.on x3
            clear d0 d1 d2 d3 f1 HM1 HM2
            have hun := uni1_in (first (sp t h k j)).1
            generalize (first (sp t h k j)).1 = rn at *
            generalize (wid (sp t h k j) : Int) = wd at *
            generalize whl (sp t h k j) = wh at *
            go_wp2_with fail
            refine (Runits_at rn wd wh y3).mono ?_
            rintro x y4 ⟨rfl, x4⟩
            dsimp only
            have HM4 := HM3.on x4
            have HM5 := HM4.s2 ((k : Int) + (j : Int) - uni1 rn)
            obtain ⟨⟨d0, d1, d2, d3, f⟩, _⟩ := HM4.ret
            have f2 := f 2
            have hku : IntKind.i64.wrap ((k : Int) + (j : Int) - uni1 rn) = (k : Int) + (j : Int) - uni1 rn := by rw [IntKind.wrap_i64]; omega
            clear f
            go_wp2_with fail
            rw [← unhide HZ1, ← unhide HZ2] at HM5
            go_roundw
            case rel => exact ⟨j + 1, by go_num, by omega, by omega, ⟨_, rfl⟩, hide (by rw [unhide HZ1, unhide HZ2] at HM5 ⊢; exact HM5)⟩
            case measure => simp [intOf]; omega
          · have q3 : (((lng (sp t h k j) : Nat) : Int) == (k : Int) + (j : Int)) = false := by rw [beq_eq_false_iff_ne]; omega
            obtain ⟨z1, z2⟩ := z_no em
            have HM2 := hide HM1
            rw [← z1, ← z2] at HM2
            clear z1 z2 HM1 em
            go_wp2_with fail
            refine (unhide HLG).mono ?_
            rintro x y1' ⟨rfl, rfl⟩
            dsimp only
            generalize y1' = y1 at *
            go_wp2_with fail
            go_roundw
            case rel => exact ⟨j + 1, by go_num, by omega, by omega, ⟨_, rfl⟩, HM2⟩
            case measure => simp [intOf]; omega
        · have q2 : ¬ ((j : Int) ≤ (h.length : Int)) := by omega
          obtain rfl : j = h.length + 1 := by omega
          rw [zR_row, zU_row] at HM
          go_wp2_with fail
          go_roundw
          case rel => exact ⟨k + 1, by go_num, by omega, by omega, ⟨_, rfl⟩, ⟨_, rfl⟩, HM⟩
          case measure => simp [intOf]; omega
    · have q1 : ¬ ((k : Int) ≤ (t.length : Int)) := by omega
      obtain rfl : k = t.length + 1 := by omega
      rw [zR_end, zU_end] at HM
      obtain ⟨⟨d0, d1, d2, d3, f⟩, r0, r1, r2, r3, fr⟩ := (unhide HM).ret
      have f3 := f 3
      have g0 := fr 0
      have g1 := fr 1
      have g2 := fr 2
      have g3 := fr 3
      clear f fr
      by_cases p1 : 0 < t.length
      · have p1i : (0 : Int) < (t.length : Int) := by omega
        by_cases p2 : 0 < h.length
        · have p2i : (0 : Int) < (h.length : Int) := by omega
          have hl1 : (t.length : Int) - 1 = ((t.length - 1 : Nat) : Int) := by omega
          have hla := last_get p1
          have hhe := head_get p2
          have hi1 := str_at t (unhide HT) (i := t.length - 1) (by omega)
          have hi2 := str_at h (unhide HH) (i := 0) p2
          obtain ⟨m, hm⟩ : ∃ m, m = t.length - 1 := ⟨_, rfl⟩
          rw [← hm] at hl1 hi1 hla
          have hm1 : (m : Int) < (t.length : Int) := by omega
          have hwm : IntKind.i64.wrap (m : Int) = (m : Int) := by rw [IntKind.wrap_i64]; omega
          have HLA := hide hla
          have HHE := hide hhe
          clear hm hla hhe
          generalize t.getD m 0 = lt at *
          generalize h.getD 0 0 = hd at *
          by_cases k13 : lt = 13
          · subst k13
            by_cases k10 : hd = 10
            · subst k10
              have HM3 := (unhide HM).s3 1
              obtain ⟨⟨d0', d1', d2', d3', _⟩, r0', r1', r2', r3', fr'⟩ := HM3.ret
              have g0' := fr' 0
              have g1' := fr' 1
              have g2' := fr' 2
              have g3' := fr' 3
              clear fr'
              go_wp2_with fail
              obtain ⟨v0, v1, v2, v3, _⟩ := (HM3.R.all (.int .i64 0) (.int .i64 (seamR (t ++ h) t.length)) (.int .i64 (seamU (t ++ h) t.length)) (.int .i64 1)).cells
              have DD := below4 HM3.D HM3.G.1.2.2.1 (.int .i64 0) (.int .i64 (seamR (t ++ h) t.length)) (.int .i64 (seamU (t ++ h) t.length)) (.int .i64 1)
              have hE : seamE t h = 1 := by unfold seamE; rw [if_pos ⟨unhide HLA, unhide HHE⟩]
              refine bodyPost_ret (v := szV (seamL t h)) (by simp [results, Tryd.results20, go_sem, v0, v1, v2, v3, szV, seamL, hE]) rfl ⟨rfl, DD⟩
            · have k10b : (hd == 10) = false := by rw [beq_eq_false_iff_ne]; exact k10
              go_wp2_with fail
              obtain ⟨v0, v1, v2, v3, _⟩ := ((unhide HM).R.all (.int .i64 0) (.int .i64 (seamR (t ++ h) t.length)) (.int .i64 (seamU (t ++ h) t.length)) (.int .i64 0)).cells
              have DD := below4 (unhide HM).D (unhide HM).G.1.2.2.1 (.int .i64 0) (.int .i64 (seamR (t ++ h) t.length)) (.int .i64 (seamU (t ++ h) t.length)) (.int .i64 0)
              have hE : seamE t h = 0 := by unfold seamE; rw [if_neg (fun h => k10 (Option.some.inj ((unhide HHE).symm.trans h.2)))]
              refine bodyPost_ret (v := szV (seamL t h)) (by simp [results, Tryd.results20, go_sem, v0, v1, v2, v3, szV, seamL, hE]) rfl ⟨rfl, DD⟩
          · have k13b : (lt == 13) = false := by rw [beq_eq_false_iff_ne]; exact k13
            go_wp2_with fail
            obtain ⟨v0, v1, v2, v3, _⟩ := ((unhide HM).R.all (.int .i64 0) (.int .i64 (seamR (t ++ h) t.length)) (.int .i64 (seamU (t ++ h) t.length)) (.int .i64 0)).cells
            have DD := below4 (unhide HM).D (unhide HM).G.1.2.2.1 (.int .i64 0) (.int .i64 (seamR (t ++ h) t.length)) (.int .i64 (seamU (t ++ h) t.length)) (.int .i64 0)
            have hE : seamE t h = 0 := by unfold seamE; rw [if_neg (fun h => k13 (Option.some.inj ((unhide HLA).symm.trans h.1)))]
            refine bodyPost_ret (v := szV (seamL t h)) (by simp [results, Tryd.results20, go_sem, v0, v1, v2, v3, szV, seamL, hE]) rfl ⟨rfl, DD⟩
        · have p2i : ¬ ((0 : Int) < (h.length : Int)) := by omega
          have HN : Hid (h = []) := hide (List.eq_nil_of_length_eq_zero (by omega))
          go_wp2_with fail
          obtain ⟨v0, v1, v2, v3, _⟩ := ((unhide HM).R.all (.int .i64 0) (.int .i64 (seamR (t ++ h) t.length)) (.int .i64 (seamU (t ++ h) t.length)) (.int .i64 0)).cells
          have DD := below4 (unhide HM).D (unhide HM).G.1.2.2.1 (.int .i64 0) (.int .i64 (seamR (t ++ h) t.length)) (.int .i64 (seamU (t ++ h) t.length)) (.int .i64 0)
          have hE : seamE t h = 0 := by unfold seamE; rw [if_neg (fun hx => by rw [unhide HN] at hx; cases hx.2)]
          refine bodyPost_ret (v := szV (seamL t h)) (by simp [results, Tryd.results20, go_sem, v0, v1, v2, v3, szV, seamL, hE]) rfl ⟨rfl, DD⟩
      · have p1i : ¬ ((0 : Int) < (t.length : Int)) := by omega
        have HN : Hid (t = []) := hide (List.eq_nil_of_length_eq_zero (by omega))
        go_wp2_with fail
        obtain ⟨v0, v1, v2, v3, _⟩ := ((unhide HM).R.all (.int .i64 0) (.int .i64 (seamR (t ++ h) t.length)) (.int .i64 (seamU (t ++ h) t.length)) (.int .i64 0)).cells
        have DD := below4 (unhide HM).D (unhide HM).G.1.2.2.1 (.int .i64 0) (.int .i64 (seamR (t ++ h) t.length)) (.int .i64 (seamU (t ++ h) t.length)) (.int .i64 0)
        have hE : seamE t h = 0 := by unfold seamE; rw [if_neg (fun hx => by rw [unhide HN] at hx; cases hx.1)]
        refine bodyPost_ret (v := szV (seamL t h)) (by simp [results, Tryd.results20, go_sem, v0, v1, v2, v3, szV, seamL, hE]) rfl ⟨rfl, DD⟩
end Go.Proofs.YtchlnphapnafcaaDoor
end

section
namespace Go.Proofs.YtchlnphapnafcaaDoor
open Go.ChangeShapes Go.WideShapes Go.ChangeAt Go.RowKit

structure J3 (w : World) (ga gb gr : Nat) (a b r : We) (X : World) : Prop where
  xa : X.heap[ga]? = some (.cells (wc a) 25 (0, 0))
  xb : X.heap[gb]? = some (.cells (wc b) 25 (0, 0))
  xr : X.heap[gr]? = some (.cells (wc r) 25 (0, 0))
  below : Below w.heap.size w X
  lo : w.heap.size ≤ ga ∧ w.heap.size ≤ gb ∧ w.heap.size ≤ gr
  ne : ga ≠ gr ∧ gb ≠ gr
theorem blk_lt {X : World} {g : Nat} {o : Obj} (h : X.heap[g]? = some o) : g < X.heap.size := (Array.getElem?_eq_some_iff.1 h).1
theorem blk_on {X Y : World} {g : Nat} {o : Obj} (h : X.heap[g]? = some o) (hb : Below X.heap.size X Y) : Y.heap[g]? = some o := (hb.block g (blk_lt h)).trans h
theorem J3.on {w : World} {ga gb gr : Nat} {a b r : We} {X Y : World} (p : J3 w ga gb gr a b r X) (h : Below X.heap.size X Y) : J3 w ga gb gr a b r Y :=
  ⟨blk_on p.xa h, blk_on p.xb h, blk_on p.xr h, p.below.trans (h.mono p.below.size), p.lo, p.ne⟩
theorem J3.setr {w : World} {ga gb gr : Nat} {a b r : We} {X : World} (p : J3 w ga gb gr a b r X) (y : We) : J3 w ga gb gr a b y ((((((X.setCell ⟨gr, 0, none⟩ (.int .i64 y.z.b)).setCell ⟨gr, 1, none⟩ (.int .i64 y.z.r)).setCell ⟨gr, 2, none⟩ (.int .i64 y.z.u)).setCell ⟨gr, 3, none⟩ (.int .i64 y.z.e)).setCell ⟨gr, 4, none⟩ (.string (strOfNums y.h))).setCell ⟨gr, 5, none⟩ (.string (strOfNums y.t))) :=
  ⟨(set6_other _ _ _ _ _ _ _ p.ne.1).trans p.xa, (set6_other _ _ _ _ _ _ _ p.ne.2).trans p.xb, box6_w p.xr, below6 p.below p.lo.2.2 _ _ _ _ _ _, p.lo, p.ne⟩
structure J5 (w : World) (ga gb gr gz gw : Nat) (a b r : We) (z : Sz) (x : We) (X : World) : Prop where
  j : J3 w ga gb gr a b r X
  xz : X.heap[gz]? = some (.cells (zc z) 23 (0, 0))
  xw : X.heap[gw]? = some (.cells (wc x) 25 (0, 0))
  lo : w.heap.size ≤ gw
  ne : ga ≠ gw ∧ gb ≠ gw ∧ gr ≠ gw ∧ gz ≠ gw
theorem J5.on {w : World} {ga gb gr gz gw : Nat} {a b r : We} {z : Sz} {x : We} {X Y : World} (p : J5 w ga gb gr gz gw a b r z x X) (h : Below X.heap.size X Y) : J5 w ga gb gr gz gw a b r z x Y :=
  ⟨p.j.on h, blk_on p.xz h, blk_on p.xw h, p.lo, p.ne⟩
theorem J5.set {w : World} {ga gb gr gz gw : Nat} {a b r : We} {z : Sz} {x : We} {X : World} (p : J5 w ga gb gr gz gw a b r z x X) (y : We) (i : Nat) (v : Value) (hy : (wc x).setIfInBounds i v = wc y) : J5 w ga gb gr gz gw a b r z y (X.setCell ⟨gw, i, none⟩ v) :=
  ⟨⟨(set_other _ _ p.ne.1).trans p.j.xa, (set_other _ _ p.ne.2.1).trans p.j.xb, (set_other _ _ p.ne.2.2.1).trans p.j.xr, p.j.below.setCell (p := ⟨gw, i, none⟩) p.lo _, p.j.lo, p.j.ne⟩, (set_other _ _ p.ne.2.2.2).trans p.xz, by rw [← hy]; exact heap_setCell_same X gw i _ _ v p.xw, p.lo, p.ne⟩
theorem J3.five {w : World} {ga gb gr : Nat} {a b r : We} {X : World} (p : J3 w ga gb gr a b r X) (z : Sz) (x : We) : J5 w ga gb gr X.heap.size (X.heap.size + 1) a b r z x ((X.alloc (.cells (zc z) 23)).alloc (.cells (wc x) 25)) := by
  have z1 : (X.alloc (.cells (zc z) 23)).heap.size = X.heap.size + 1 := World.size_alloc ..
  have h1 : Below X.heap.size X ((X.alloc (.cells (zc z) 23)).alloc (.cells (wc x) 25)) := ((Below.refl _ _).alloc (Nat.le_refl _) _).alloc (by omega) _
  have ha := blk_lt p.xa
  have hb := blk_lt p.xb
  have hr := blk_lt p.xr
  refine ⟨p.on h1, ?_, ?_, by have := p.below.size; omega, by omega, by omega, by omega, by omega⟩
  · rw [heap_alloc_old _ _ (by omega)]
    exact push_get X _
  · have := push_get (X.alloc (.cells (zc z) 23)) (.cells (wc x) 25)
    rwa [z1] at this
theorem head_len3 {a b : We} (h : ¬ a.h.length < 3) (h3 : a.h.length ≤ 3) : (a.h ++ b.h).take 3 = a.h := by rw [List.take_append_of_le_length (by omega), List.take_of_length_le (by omega)]
theorem tail_len3 {a b : We} (h : ¬ b.t.length < 3) (h3 : b.t.length ≤ 3) : tail3 (a.t ++ b.t) = b.t := by
  unfold tail3
  have e : (a.t ++ b.t).length - 3 = a.t.length := by rw [List.length_append]; omega
  rw [e, List.drop_left]
theorem both_byw {a b : We} (ha : Byw a) (hb : Byw b) : Byw (bothW a b) :=
  ⟨fun y hy => (List.mem_append.1 (List.mem_of_mem_take hy)).elim (ha.h y) (hb.h y), fun y hy => (List.mem_append.1 (List.mem_of_mem_drop hy)).elim (ha.t y) (hb.t y)⟩

set_option maxRecDepth 100000 in
set_option maxHeartbeats 8000000 in
theorem RJoin_at (a b : We) (w : World) (ha : Byw a) (hb : Byw b) :
    Calls Tryd.prog 9 #[weV a, weV b] w fun y w' => y = .returned (.tuple #[weV (joinL a b).1, .int .i64 (joinL a b).2.2]) ∧ Below w.heap.size w w' := by
  have HJ1 : Hid (J3 w w.heap.size (w.heap.size + 1) (w.heap.size + 1 + 1) a b zeroWe (((w.alloc (.cells #[.int .i64 a.z.b, .int .i64 a.z.r, .int .i64 a.z.u, .int .i64 a.z.e, .string (strOfNums a.h), .string (strOfNums a.t)] 25)).alloc (.cells #[.int .i64 b.z.b, .int .i64 b.z.r, .int .i64 b.z.u, .int .i64 b.z.e, .string (strOfNums b.h), .string (strOfNums b.t)] 25)).alloc (.cells #[.int .i64 0, .int .i64 0, .int .i64 0, .int .i64 0, .string ⟨#[]⟩, .string ⟨#[]⟩] 25))) := hide (by
    have za : (w.alloc (.cells #[.int .i64 a.z.b, .int .i64 a.z.r, .int .i64 a.z.u, .int .i64 a.z.e, .string (strOfNums a.h), .string (strOfNums a.t)] 25)).heap.size = w.heap.size + 1 := World.size_alloc ..
    have zb : ((w.alloc (.cells #[.int .i64 a.z.b, .int .i64 a.z.r, .int .i64 a.z.u, .int .i64 a.z.e, .string (strOfNums a.h), .string (strOfNums a.t)] 25)).alloc (.cells #[.int .i64 b.z.b, .int .i64 b.z.r, .int .i64 b.z.u, .int .i64 b.z.e, .string (strOfNums b.h), .string (strOfNums b.t)] 25)).heap.size = w.heap.size + 1 + 1 := by rw [World.size_alloc, za]
    refine ⟨?_, ?_, ?_, (((Below.refl _ _).alloc (Nat.le_refl _) _).alloc (by omega) _).alloc (by omega) _, ⟨by omega, by omega, by omega⟩, by omega, by omega⟩
    · rw [heap_alloc_old _ _ (by omega), heap_alloc_old _ _ (by omega)]
      exact push_get w _
    · rw [heap_alloc_old _ _ (by omega)]
      have := push_get (w.alloc (.cells #[.int .i64 a.z.b, .int .i64 a.z.r, .int .i64 a.z.u, .int .i64 a.z.e, .string (strOfNums a.h), .string (strOfNums a.t)] 25)) (.cells #[.int .i64 b.z.b, .int .i64 b.z.r, .int .i64 b.z.u, .int .i64 b.z.e, .string (strOfNums b.h), .string (strOfNums b.t)] 25)
      rwa [za] at this
    · have := push_get ((w.alloc (.cells #[.int .i64 a.z.b, .int .i64 a.z.r, .int .i64 a.z.u, .int .i64 a.z.e, .string (strOfNums a.h), .string (strOfNums a.t)] 25)).alloc (.cells #[.int .i64 b.z.b, .int .i64 b.z.r, .int .i64 b.z.u, .int .i64 b.z.e, .string (strOfNums b.h), .string (strOfNums b.t)] 25)) (.cells #[.int .i64 0, .int .i64 0, .int .i64 0, .int .i64 0, .string ⟨#[]⟩, .string ⟨#[]⟩] 25)
      rwa [zb] at this)
  have RV : Hid (∀ (x : We), Byw x → ∀ W, Calls Tryd.prog 7 #[.agg #[.int .i64 x.z.b, .int .i64 x.z.r, .int .i64 x.z.u, .int .i64 x.z.e, .string (strOfNums x.h), .string (strOfNums x.t)]] W fun y w' => y = .returned (.bool (validB x)) ∧ Below W.heap.size W w') := hide (fun x hx W => RValid_at x W hx)
  have HA := hide ha
  have HB := hide hb
  clear ha hb
  unfold weV
  go_enter Tryd.func9, Tryd.ntmps9
  go_upto_region 1 with fail
  generalize (((w.alloc (.cells #[.int .i64 a.z.b, .int .i64 a.z.r, .int .i64 a.z.u, .int .i64 a.z.e, .string (strOfNums a.h), .string (strOfNums a.t)] 25)).alloc (.cells #[.int .i64 b.z.b, .int .i64 b.z.r, .int .i64 b.z.u, .int .i64 b.z.e, .string (strOfNums b.h), .string (strOfNums b.t)] 25)).alloc (.cells #[.int .i64 0, .int .i64 0, .int .i64 0, .int .i64 0, .string ⟨#[]⟩, .string ⟨#[]⟩] 25)) = w1 at *
  generalize w.heap.size + 1 + 1 = gr at *
  generalize w.heap.size + 1 = gb at *
  generalize hga : w.heap.size = ga at HJ1 ⊢
  clear hga
  obtain ⟨a0, a1, a2, a3, a4, a5, _⟩ := cells6 (unhide HJ1).xa
  go_wp2_with fail
  refine (unhide RV a (unhide HA) w1).mono ?_
  rintro y w2 ⟨rfl, b2⟩
  have HJ2 := hide ((unhide HJ1).on b2)
  clear HJ1 b2 a0 a1 a2 a3 a4 a5
  dsimp only
  cases hva : validB a with
  | false =>
    have hj : joinL a b = (zeroWe, ⟨0, 0, 0, 0⟩, 50) := by unfold joinL; rw [hva]; rfl
    obtain ⟨c0, c1, c2, c3, c4, c5, f⟩ := cells6 (unhide HJ2).xr
    have f0 := f 0
    have f1 := f 1
    have f2 := f 2
    have f3 := f 3
    have f4 := f 4
    have f5 := f 5
    have HF : Hid (J3 w ga gb gr a b zeroWe ((((((w2.setCell ⟨gr, 0, none⟩ (.int .i64 0)).setCell ⟨gr, 1, none⟩ (.int .i64 0)).setCell ⟨gr, 2, none⟩ (.int .i64 0)).setCell ⟨gr, 3, none⟩ (.int .i64 0)).setCell ⟨gr, 4, none⟩ (.string ⟨#[]⟩)).setCell ⟨gr, 5, none⟩ (.string ⟨#[]⟩))) := hide ((unhide HJ2).setr zeroWe)
    clear f
    try dsimp only
    go_wp2_with fail
    clear c0 c1 c2 c3 c4 c5 f0 f1 f2 f3 f4 f5
    generalize ((((((w2.setCell ⟨gr, 0, none⟩ (.int .i64 0)).setCell ⟨gr, 1, none⟩ (.int .i64 0)).setCell ⟨gr, 2, none⟩ (.int .i64 0)).setCell ⟨gr, 3, none⟩ (.int .i64 0)).setCell ⟨gr, 4, none⟩ (.string ⟨#[]⟩)).setCell ⟨gr, 5, none⟩ (.string ⟨#[]⟩)) = wf at *
    obtain ⟨c0, c1, c2, c3, c4, c5, _⟩ := cells6 (unhide HF).xr
    refine bodyPost_ret (v := .tuple #[weV zeroWe, .int .i64 50]) (by simp [results, Tryd.results9, go_sem, c0, c1, c2, c3, c4, c5, weV]) rfl ⟨by rw [hj]; first | rfl | done, (unhide HF).below⟩
  | true =>
    have hia := valid_in hva
    obtain ⟨b0, b1, b2, b3, b4, b5, _⟩ := cells6 (unhide HJ2).xb
    go_wp2_with fail
    refine (unhide RV b (unhide HB) w2).mono ?_
    rintro y w3 ⟨rfl, q3⟩
    have HJ3 := hide ((unhide HJ2).on q3)
    clear HJ2 q3 b0 b1 b2 b3 b4 b5
    dsimp only
    cases hvb : validB b with
    | false =>
      have hj : joinL a b = (zeroWe, ⟨0, 0, 0, 0⟩, 50) := by unfold joinL; rw [hva, hvb]; rfl
      obtain ⟨c0, c1, c2, c3, c4, c5, f⟩ := cells6 (unhide HJ3).xr
      have f0 := f 0
      have f1 := f 1
      have f2 := f 2
      have f3 := f 3
      have f4 := f 4
      have f5 := f 5
      have HF : Hid (J3 w ga gb gr a b zeroWe ((((((w3.setCell ⟨gr, 0, none⟩ (.int .i64 0)).setCell ⟨gr, 1, none⟩ (.int .i64 0)).setCell ⟨gr, 2, none⟩ (.int .i64 0)).setCell ⟨gr, 3, none⟩ (.int .i64 0)).setCell ⟨gr, 4, none⟩ (.string ⟨#[]⟩)).setCell ⟨gr, 5, none⟩ (.string ⟨#[]⟩))) := hide ((unhide HJ3).setr zeroWe)
      clear f
      try dsimp only
      go_wp2_with fail
      clear c0 c1 c2 c3 c4 c5 f0 f1 f2 f3 f4 f5
      generalize ((((((w3.setCell ⟨gr, 0, none⟩ (.int .i64 0)).setCell ⟨gr, 1, none⟩ (.int .i64 0)).setCell ⟨gr, 2, none⟩ (.int .i64 0)).setCell ⟨gr, 3, none⟩ (.int .i64 0)).setCell ⟨gr, 4, none⟩ (.string ⟨#[]⟩)).setCell ⟨gr, 5, none⟩ (.string ⟨#[]⟩)) = wf at *
      obtain ⟨c0, c1, c2, c3, c4, c5, _⟩ := cells6 (unhide HF).xr
      refine bodyPost_ret (v := .tuple #[weV zeroWe, .int .i64 50]) (by simp [results, Tryd.results9, go_sem, c0, c1, c2, c3, c4, c5, weV]) rfl ⟨by rw [hj]; first | rfl | done, (unhide HF).below⟩
    | true =>
      have hib := valid_in hvb
      obtain ⟨⟨ib, ir, iu, ie⟩, ia3, iat, ia0, iaM, _, _⟩ := hia
      obtain ⟨⟨jb, jr, ju, je⟩, ib3, ibt, ib0, ibM, _, _⟩ := hib
      obtain ⟨a0, a1, a2, a3, a4, a5, _⟩ := cells6 (unhide HJ3).xa
      obtain ⟨b0, b1, b2, b3, b4, b5, _⟩ := cells6 (unhide HJ3).xb
      have hsb : IntKind.i64.wrap (a.z.b + b.z.b) = a.z.b + b.z.b := by rw [IntKind.wrap_i64]; omega
      by_cases hM : 268435456 < a.z.b + b.z.b
      · have hj : joinL a b = (zeroWe, ⟨0, 0, 0, 0⟩, 5) := by unfold joinL; rw [hva, hvb, if_neg (by decide), if_pos hM]
        obtain ⟨c0, c1, c2, c3, c4, c5, f⟩ := cells6 (unhide HJ3).xr
        have f0 := f 0
        have f1 := f 1
        have f2 := f 2
        have f3 := f 3
        have f4 := f 4
        have f5 := f 5
        have HF : Hid (J3 w ga gb gr a b zeroWe ((((((w3.setCell ⟨gr, 0, none⟩ (.int .i64 0)).setCell ⟨gr, 1, none⟩ (.int .i64 0)).setCell ⟨gr, 2, none⟩ (.int .i64 0)).setCell ⟨gr, 3, none⟩ (.int .i64 0)).setCell ⟨gr, 4, none⟩ (.string ⟨#[]⟩)).setCell ⟨gr, 5, none⟩ (.string ⟨#[]⟩))) := hide ((unhide HJ3).setr zeroWe)
        clear f
        try dsimp only
        go_wp2_with fail
        clear c0 c1 c2 c3 c4 c5 f0 f1 f2 f3 f4 f5
        generalize ((((((w3.setCell ⟨gr, 0, none⟩ (.int .i64 0)).setCell ⟨gr, 1, none⟩ (.int .i64 0)).setCell ⟨gr, 2, none⟩ (.int .i64 0)).setCell ⟨gr, 3, none⟩ (.int .i64 0)).setCell ⟨gr, 4, none⟩ (.string ⟨#[]⟩)).setCell ⟨gr, 5, none⟩ (.string ⟨#[]⟩)) = wf at *
        obtain ⟨c0, c1, c2, c3, c4, c5, _⟩ := cells6 (unhide HF).xr
        refine bodyPost_ret (v := .tuple #[weV zeroWe, .int .i64 5]) (by simp [results, Tryd.results9, go_sem, c0, c1, c2, c3, c4, c5, weV]) rfl ⟨by rw [hj]; first | rfl | done, (unhide HF).below⟩
      · have hsr : IntKind.i64.wrap (a.z.r + b.z.r) = a.z.r + b.z.r := by rw [IntKind.wrap_i64]; omega
        have hsu : IntKind.i64.wrap (a.z.u + b.z.u) = a.z.u + b.z.u := by rw [IntKind.wrap_i64]; omega
        have hse : IntKind.i64.wrap (a.z.e + b.z.e) = a.z.e + b.z.e := by rw [IntKind.wrap_i64]; omega
        obtain ⟨⟨sb, sr, su, se⟩, hb0⟩ := seamL_in (s := a.t) (t := b.h)
        have hBO : bothW a b = ⟨addZ a.z b.z (seamL a.t b.h), (a.h ++ b.h).take 3, tail3 (a.t ++ b.t)⟩ := rfl
        have RS := hide (Rseam_at a b w3 (unhide HA) (unhide HB) iat ib3)
        have HBOT := hide (both_byw (unhide HA) (unhide HB))
        have HMM := hide hM
        have HVA := hide (And.intro hva hvb)
        unfold addZ at hBO
        rw [hb0] at hBO
        obtain ⟨sz, hsz⟩ : ∃ sz, sz = seamL a.t b.h := ⟨_, rfl⟩
        have HSZ := hide hsz
        rw [← hsz] at hBO sb sr su se RS
        unfold weV szV at RS
        have hrr : IntKind.i64.wrap (a.z.r + b.z.r - sz.r) = a.z.r + b.z.r - sz.r := by rw [IntKind.wrap_i64]; omega
        have huu : IntKind.i64.wrap (a.z.u + b.z.u - sz.u) = a.z.u + b.z.u - sz.u := by rw [IntKind.wrap_i64]; omega
        have hee : IntKind.i64.wrap (a.z.e + b.z.e - sz.e) = a.z.e + b.z.e - sz.e := by rw [IntKind.wrap_i64]; omega
        have HBO := hide hBO
        clear hb0 hsz hBO
        go_wp2_with fail
        refine (unhide RS).mono ?_
        rintro y w4 ⟨rfl, q4⟩
        dsimp only
        have HJ4 := (unhide HJ3).on q4
        clear HJ3 q4 a0 a1 a2 a3 a4 a5 b0 b1 b2 b3 b4 b5 RS
        have J4P := HJ4.on ((Below.refl w4.heap.size w4).alloc (Nat.le_refl _) (.cells #[.int .i64 sz.b, .int .i64 sz.r, .int .i64 sz.u, .int .i64 sz.e] 23))
        have HJ5 : Hid (J5 w ga gb gr w4.heap.size (w4.heap.size + 1) a b zeroWe sz ⟨⟨0, 0, 0, 0⟩, a.h, b.t⟩ ((w4.alloc (.cells #[.int .i64 sz.b, .int .i64 sz.r, .int .i64 sz.u, .int .i64 sz.e] 23)).alloc (.cells #[.int .i64 0, .int .i64 0, .int .i64 0, .int .i64 0, .string (strOfNums a.h), .string (strOfNums b.t)] 25))) := hide (HJ4.five sz ⟨⟨0, 0, 0, 0⟩, a.h, b.t⟩)
        obtain ⟨a0, a1, a2, a3, a4, a5, _⟩ := cells6 (J4P).xa
        obtain ⟨b0, b1, b2, b3, b4, b5, _⟩ := cells6 (J4P).xb
        have hzah : (strOfNums a.h).size = a.h.length := strOfNums_size a.h
        have hzbt : (strOfNums b.t).size = b.t.length := strOfNums_size b.t
        have hzp : (w4.alloc (.cells #[.int .i64 sz.b, .int .i64 sz.r, .int .i64 sz.u, .int .i64 sz.e] 23)).heap.size = w4.heap.size + 1 := World.size_alloc ..
        go_upto_region 7 with fail
        try rw [hzp]
        clear a0 a1 a2 a3 a4 a5 b0 b1 b2 b3 b4 b5
        clear J4P HJ4 hzp
        generalize ((w4.alloc (.cells #[.int .i64 sz.b, .int .i64 sz.r, .int .i64 sz.u, .int .i64 sz.e] 23)).alloc (.cells #[.int .i64 0, .int .i64 0, .int .i64 0, .int .i64 0, .string (strOfNums a.h), .string (strOfNums b.t)] 25)) = w5 at *
        generalize w4.heap.size + 1 = gw at *
        generalize w4.heap.size = gz at *
        have hcat1 : ¬ 9223372036854775807 < a.h.length + (strOfNums b.h).size := by rw [strOfNums_size]; omega
        have hap1 := str_app a.h b.h
        have hcat2 : ¬ 9223372036854775807 < (strOfNums a.t).size + b.t.length := by rw [strOfNums_size]; omega
        have hap2 := str_app a.t b.t
        by_cases hh : a.h.length < 3
        · have hhi : (a.h.length : Int) < 3 := by omega
          obtain ⟨a0, a1, a2, a3, a4, a5, _⟩ := cells6 ((unhide HJ5).j).xa
          obtain ⟨b0, b1, b2, b3, b4, b5, _⟩ := cells6 ((unhide HJ5).j).xb
          go_wp2_with fail
          refine (Rhead_at (a.h ++ b.h) w5 (by rw [List.length_append]; omega)).mono ?_
          rintro y w6 ⟨rfl, rfl⟩
          dsimp only
          have HJ6 := unhide HJ5
          obtain ⟨x0, x1, x2, x3, x4, x5, f⟩ := cells6 HJ6.xw
          have f4 := f 4
          have HJ7 : Hid (J5 w ga gb gr gz gw a b zeroWe sz ⟨⟨0, 0, 0, 0⟩, (a.h ++ b.h).take 3, b.t⟩ (w6.setCell ⟨gw, 4, none⟩ (.string (strOfNums ((a.h ++ b.h).take 3))))) := hide (HJ6.set _ 4 _ rfl)
          clear f HJ5
          go_upto_region 9 with fail
          clear a0 a1 a2 a3 a4 a5 b0 b1 b2 b3 b4 b5 x0 x1 x2 x3 x4 x5 f4 HJ6
          generalize w6.setCell ⟨gw, 4, none⟩ (.string (strOfNums ((a.h ++ b.h).take 3))) = w7 at *
          by_cases ht : b.t.length < 3
          · have hti : (b.t.length : Int) < 3 := by omega
            obtain ⟨a0, a1, a2, a3, a4, a5, _⟩ := cells6 ((unhide HJ7).j).xa
            obtain ⟨b0, b1, b2, b3, b4, b5, _⟩ := cells6 ((unhide HJ7).j).xb
            go_wp2_with fail
            refine (Rtail_at (a.t ++ b.t) w7 (by rw [List.length_append]; omega)).mono ?_
            rintro y w8 ⟨rfl, rfl⟩
            dsimp only
            have HJ8 := unhide HJ7
            obtain ⟨x0, x1, x2, x3, x4, x5, f⟩ := cells6 HJ8.xw
            have f5 := f 5
            have HJ9 : Hid (J5 w ga gb gr gz gw a b zeroWe sz ⟨⟨0, 0, 0, 0⟩, (a.h ++ b.h).take 3, tail3 (a.t ++ b.t)⟩ (w8.setCell ⟨gw, 5, none⟩ (.string (strOfNums (tail3 (a.t ++ b.t)))))) := hide (HJ8.set _ 5 _ rfl)
            clear f HJ7
            go_upto_region 11 with fail
            clear a0 a1 a2 a3 a4 a5 b0 b1 b2 b3 b4 b5 x0 x1 x2 x3 x4 x5 f5 HJ8
            generalize w8.setCell ⟨gw, 5, none⟩ (.string (strOfNums (tail3 (a.t ++ b.t)))) = w9 at *
            obtain ⟨a0, a1, a2, a3, a4, a5, _⟩ := cells6 ((unhide HJ9).j).xa
            obtain ⟨b0, b1, b2, b3, b4, b5, _⟩ := cells6 ((unhide HJ9).j).xb
            obtain ⟨x0, x1, x2, x3, x4, x5, f⟩ := cells6 (unhide HJ9).xw
            obtain ⟨z0, z1, z2, z3, _⟩ := cells4 (unhide HJ9).xz
            have fi := f 0
            have HK0 : Hid (J5 w ga gb gr gz gw a b zeroWe sz ⟨⟨a.z.b + b.z.b, 0, 0, 0⟩, (a.h ++ b.h).take 3, tail3 (a.t ++ b.t)⟩ (w9.setCell ⟨gw, 0, none⟩ (.int .i64 (a.z.b + b.z.b)))) := hide ((unhide HJ9).set _ 0 _ rfl)
            clear f
            go_upto_region 12 with fail
            clear a0 a1 a2 a3 a4 a5 b0 b1 b2 b3 b4 b5
            clear x0 x1 x2 x3 x4 x5 z0 z1 z2 z3 fi
            generalize w9.setCell ⟨gw, 0, none⟩ (.int .i64 (a.z.b + b.z.b)) = v0 at *
            obtain ⟨a0, a1, a2, a3, a4, a5, _⟩ := cells6 ((unhide HK0).j).xa
            obtain ⟨b0, b1, b2, b3, b4, b5, _⟩ := cells6 ((unhide HK0).j).xb
            obtain ⟨x0, x1, x2, x3, x4, x5, f⟩ := cells6 (unhide HK0).xw
            obtain ⟨z0, z1, z2, z3, _⟩ := cells4 (unhide HK0).xz
            have fi := f 1
            have HK1 : Hid (J5 w ga gb gr gz gw a b zeroWe sz ⟨⟨a.z.b + b.z.b, a.z.r + b.z.r - sz.r, 0, 0⟩, (a.h ++ b.h).take 3, tail3 (a.t ++ b.t)⟩ (v0.setCell ⟨gw, 1, none⟩ (.int .i64 (a.z.r + b.z.r - sz.r)))) := hide ((unhide HK0).set _ 1 _ rfl)
            clear f
            go_upto_region 13 with fail
            clear a0 a1 a2 a3 a4 a5 b0 b1 b2 b3 b4 b5
            clear x0 x1 x2 x3 x4 x5 z0 z1 z2 z3 fi
            generalize v0.setCell ⟨gw, 1, none⟩ (.int .i64 (a.z.r + b.z.r - sz.r)) = v1 at *
            obtain ⟨a0, a1, a2, a3, a4, a5, _⟩ := cells6 ((unhide HK1).j).xa
            obtain ⟨b0, b1, b2, b3, b4, b5, _⟩ := cells6 ((unhide HK1).j).xb
            obtain ⟨x0, x1, x2, x3, x4, x5, f⟩ := cells6 (unhide HK1).xw
            obtain ⟨z0, z1, z2, z3, _⟩ := cells4 (unhide HK1).xz
            have fi := f 2
            have HK2 : Hid (J5 w ga gb gr gz gw a b zeroWe sz ⟨⟨a.z.b + b.z.b, a.z.r + b.z.r - sz.r, a.z.u + b.z.u - sz.u, 0⟩, (a.h ++ b.h).take 3, tail3 (a.t ++ b.t)⟩ (v1.setCell ⟨gw, 2, none⟩ (.int .i64 (a.z.u + b.z.u - sz.u)))) := hide ((unhide HK1).set _ 2 _ rfl)
            clear f
            go_upto_region 14 with fail
            clear a0 a1 a2 a3 a4 a5 b0 b1 b2 b3 b4 b5
            clear x0 x1 x2 x3 x4 x5 z0 z1 z2 z3 fi
            generalize v1.setCell ⟨gw, 2, none⟩ (.int .i64 (a.z.u + b.z.u - sz.u)) = v2 at *
            obtain ⟨a0, a1, a2, a3, a4, a5, _⟩ := cells6 ((unhide HK2).j).xa
            obtain ⟨b0, b1, b2, b3, b4, b5, _⟩ := cells6 ((unhide HK2).j).xb
            obtain ⟨x0, x1, x2, x3, x4, x5, f⟩ := cells6 (unhide HK2).xw
            obtain ⟨z0, z1, z2, z3, _⟩ := cells4 (unhide HK2).xz
            have fi := f 3
            have HK3 : Hid (J5 w ga gb gr gz gw a b zeroWe sz ⟨⟨a.z.b + b.z.b, a.z.r + b.z.r - sz.r, a.z.u + b.z.u - sz.u, a.z.e + b.z.e - sz.e⟩, (a.h ++ b.h).take 3, tail3 (a.t ++ b.t)⟩ (v2.setCell ⟨gw, 3, none⟩ (.int .i64 (a.z.e + b.z.e - sz.e)))) := hide ((unhide HK2).set _ 3 _ rfl)
            clear f
            go_upto_region 15 with fail
            clear a0 a1 a2 a3 a4 a5 b0 b1 b2 b3 b4 b5
            clear x0 x1 x2 x3 x4 x5 z0 z1 z2 z3 fi
            generalize v2.setCell ⟨gw, 3, none⟩ (.int .i64 (a.z.e + b.z.e - sz.e)) = v3 at *
            have HKB : Hid (J5 w ga gb gr gz gw a b zeroWe sz (bothW a b) v3) := hide (by rw [unhide HBO, Int.sub_zero]; exact unhide HK3)
            clear HK0 HK1 HK2 HK3
            obtain ⟨x0, x1, x2, x3, x4, x5, _⟩ := cells6 (unhide HKB).xw
            go_wp2_with fail
            refine (unhide RV (bothW a b) (unhide HBOT) v3).mono ?_
            rintro y v4 ⟨rfl, u4⟩
            dsimp only
            have HKC := hide ((unhide HKB).on u4)
            clear HKB u4 x0 x1 x2 x3 x4 x5
            cases hvv : validB (bothW a b) with
            | false =>
              have hj : joinL a b = (zeroWe, ⟨0, 0, 0, 0⟩, 50) := by unfold joinL; rw [(unhide HVA).1, (unhide HVA).2, if_neg (by decide), if_neg (by have := unhide HMM; omega), if_pos hvv]
              obtain ⟨c0, c1, c2, c3, c4, c5, f⟩ := cells6 (unhide HKC).j.xr
              have f0 := f 0
              have f1 := f 1
              have f2 := f 2
              have f3 := f 3
              have f4 := f 4
              have f5 := f 5
              have HF : Hid (J3 w ga gb gr a b zeroWe ((((((v4.setCell ⟨gr, 0, none⟩ (.int .i64 0)).setCell ⟨gr, 1, none⟩ (.int .i64 0)).setCell ⟨gr, 2, none⟩ (.int .i64 0)).setCell ⟨gr, 3, none⟩ (.int .i64 0)).setCell ⟨gr, 4, none⟩ (.string ⟨#[]⟩)).setCell ⟨gr, 5, none⟩ (.string ⟨#[]⟩))) := hide ((unhide HKC).j.setr zeroWe)
              clear f
              try dsimp only
              go_wp2_with fail
              clear c0 c1 c2 c3 c4 c5 f0 f1 f2 f3 f4 f5
              generalize ((((((v4.setCell ⟨gr, 0, none⟩ (.int .i64 0)).setCell ⟨gr, 1, none⟩ (.int .i64 0)).setCell ⟨gr, 2, none⟩ (.int .i64 0)).setCell ⟨gr, 3, none⟩ (.int .i64 0)).setCell ⟨gr, 4, none⟩ (.string ⟨#[]⟩)).setCell ⟨gr, 5, none⟩ (.string ⟨#[]⟩)) = wf at *
              obtain ⟨c0, c1, c2, c3, c4, c5, _⟩ := cells6 (unhide HF).xr
              refine bodyPost_ret (v := .tuple #[weV zeroWe, .int .i64 50]) (by simp [results, Tryd.results9, go_sem, c0, c1, c2, c3, c4, c5, weV]) rfl ⟨by rw [hj]; first | rfl | done, (unhide HF).below⟩
            | true =>
              have hj : joinL a b = (bothW a b, seamL a.t b.h, 0) := by unfold joinL; rw [(unhide HVA).1, (unhide HVA).2, if_neg (by decide), if_neg (by have := unhide HMM; omega), if_neg (by rw [hvv]; decide)]
              obtain ⟨x0, x1, x2, x3, x4, x5, _⟩ := cells6 (unhide HKC).xw
              obtain ⟨c0, c1, c2, c3, c4, c5, f⟩ := cells6 (unhide HKC).j.xr
              have f0 := f 0
              have f1 := f 1
              have f2 := f 2
              have f3 := f 3
              have f4 := f 4
              have f5 := f 5
              have HF : Hid (J3 w ga gb gr a b (bothW a b) ((((((v4.setCell ⟨gr, 0, none⟩ (.int .i64 (bothW a b).z.b)).setCell ⟨gr, 1, none⟩ (.int .i64 (bothW a b).z.r)).setCell ⟨gr, 2, none⟩ (.int .i64 (bothW a b).z.u)).setCell ⟨gr, 3, none⟩ (.int .i64 (bothW a b).z.e)).setCell ⟨gr, 4, none⟩ (.string (strOfNums (bothW a b).h))).setCell ⟨gr, 5, none⟩ (.string (strOfNums (bothW a b).t)))) := hide ((unhide HKC).j.setr (bothW a b))
              clear f
              go_wp2_with fail
              clear c0 c1 c2 c3 c4 c5 f0 f1 f2 f3 f4 f5 x0 x1 x2 x3 x4 x5
              generalize ((((((v4.setCell ⟨gr, 0, none⟩ (.int .i64 (bothW a b).z.b)).setCell ⟨gr, 1, none⟩ (.int .i64 (bothW a b).z.r)).setCell ⟨gr, 2, none⟩ (.int .i64 (bothW a b).z.u)).setCell ⟨gr, 3, none⟩ (.int .i64 (bothW a b).z.e)).setCell ⟨gr, 4, none⟩ (.string (strOfNums (bothW a b).h))).setCell ⟨gr, 5, none⟩ (.string (strOfNums (bothW a b).t))) = wf at *
              obtain ⟨c0, c1, c2, c3, c4, c5, _⟩ := cells6 (unhide HF).xr
              refine bodyPost_ret (v := .tuple #[weV (bothW a b), .int .i64 0]) (by simp [results, Tryd.results9, go_sem, c0, c1, c2, c3, c4, c5, weV]) rfl ⟨by rw [hj]; first | rfl | done, (unhide HF).below⟩
          · have hti : ¬ ((b.t.length : Int) < 3) := by omega
            have HJ9 : Hid (J5 w ga gb gr gz gw a b zeroWe sz ⟨⟨0, 0, 0, 0⟩, (a.h ++ b.h).take 3, tail3 (a.t ++ b.t)⟩ w7) := hide (by rw [tail_len3 ht ibt]; exact unhide HJ7)
            obtain ⟨a0, a1, a2, a3, a4, a5, _⟩ := cells6 ((unhide HJ7).j).xa
            obtain ⟨b0, b1, b2, b3, b4, b5, _⟩ := cells6 ((unhide HJ7).j).xb
            clear HJ7
            go_upto_region 11 with fail
            clear a0 a1 a2 a3 a4 a5 b0 b1 b2 b3 b4 b5
            generalize w7 = w9 at *
            obtain ⟨a0, a1, a2, a3, a4, a5, _⟩ := cells6 ((unhide HJ9).j).xa
            obtain ⟨b0, b1, b2, b3, b4, b5, _⟩ := cells6 ((unhide HJ9).j).xb
            obtain ⟨x0, x1, x2, x3, x4, x5, f⟩ := cells6 (unhide HJ9).xw
            obtain ⟨z0, z1, z2, z3, _⟩ := cells4 (unhide HJ9).xz
            have fi := f 0
            have HK0 : Hid (J5 w ga gb gr gz gw a b zeroWe sz ⟨⟨a.z.b + b.z.b, 0, 0, 0⟩, (a.h ++ b.h).take 3, tail3 (a.t ++ b.t)⟩ (w9.setCell ⟨gw, 0, none⟩ (.int .i64 (a.z.b + b.z.b)))) := hide ((unhide HJ9).set _ 0 _ rfl)
            clear f
            go_upto_region 12 with fail
            clear a0 a1 a2 a3 a4 a5 b0 b1 b2 b3 b4 b5
            clear x0 x1 x2 x3 x4 x5 z0 z1 z2 z3 fi
            generalize w9.setCell ⟨gw, 0, none⟩ (.int .i64 (a.z.b + b.z.b)) = v0 at *
            obtain ⟨a0, a1, a2, a3, a4, a5, _⟩ := cells6 ((unhide HK0).j).xa
            obtain ⟨b0, b1, b2, b3, b4, b5, _⟩ := cells6 ((unhide HK0).j).xb
            obtain ⟨x0, x1, x2, x3, x4, x5, f⟩ := cells6 (unhide HK0).xw
            obtain ⟨z0, z1, z2, z3, _⟩ := cells4 (unhide HK0).xz
            have fi := f 1
            have HK1 : Hid (J5 w ga gb gr gz gw a b zeroWe sz ⟨⟨a.z.b + b.z.b, a.z.r + b.z.r - sz.r, 0, 0⟩, (a.h ++ b.h).take 3, tail3 (a.t ++ b.t)⟩ (v0.setCell ⟨gw, 1, none⟩ (.int .i64 (a.z.r + b.z.r - sz.r)))) := hide ((unhide HK0).set _ 1 _ rfl)
            clear f
            go_upto_region 13 with fail
            clear a0 a1 a2 a3 a4 a5 b0 b1 b2 b3 b4 b5
            clear x0 x1 x2 x3 x4 x5 z0 z1 z2 z3 fi
            generalize v0.setCell ⟨gw, 1, none⟩ (.int .i64 (a.z.r + b.z.r - sz.r)) = v1 at *
            obtain ⟨a0, a1, a2, a3, a4, a5, _⟩ := cells6 ((unhide HK1).j).xa
            obtain ⟨b0, b1, b2, b3, b4, b5, _⟩ := cells6 ((unhide HK1).j).xb
            obtain ⟨x0, x1, x2, x3, x4, x5, f⟩ := cells6 (unhide HK1).xw
            obtain ⟨z0, z1, z2, z3, _⟩ := cells4 (unhide HK1).xz
            have fi := f 2
            have HK2 : Hid (J5 w ga gb gr gz gw a b zeroWe sz ⟨⟨a.z.b + b.z.b, a.z.r + b.z.r - sz.r, a.z.u + b.z.u - sz.u, 0⟩, (a.h ++ b.h).take 3, tail3 (a.t ++ b.t)⟩ (v1.setCell ⟨gw, 2, none⟩ (.int .i64 (a.z.u + b.z.u - sz.u)))) := hide ((unhide HK1).set _ 2 _ rfl)
            clear f
            go_upto_region 14 with fail
            clear a0 a1 a2 a3 a4 a5 b0 b1 b2 b3 b4 b5
            clear x0 x1 x2 x3 x4 x5 z0 z1 z2 z3 fi
            generalize v1.setCell ⟨gw, 2, none⟩ (.int .i64 (a.z.u + b.z.u - sz.u)) = v2 at *
            obtain ⟨a0, a1, a2, a3, a4, a5, _⟩ := cells6 ((unhide HK2).j).xa
            obtain ⟨b0, b1, b2, b3, b4, b5, _⟩ := cells6 ((unhide HK2).j).xb
            obtain ⟨x0, x1, x2, x3, x4, x5, f⟩ := cells6 (unhide HK2).xw
            obtain ⟨z0, z1, z2, z3, _⟩ := cells4 (unhide HK2).xz
            have fi := f 3
            have HK3 : Hid (J5 w ga gb gr gz gw a b zeroWe sz ⟨⟨a.z.b + b.z.b, a.z.r + b.z.r - sz.r, a.z.u + b.z.u - sz.u, a.z.e + b.z.e - sz.e⟩, (a.h ++ b.h).take 3, tail3 (a.t ++ b.t)⟩ (v2.setCell ⟨gw, 3, none⟩ (.int .i64 (a.z.e + b.z.e - sz.e)))) := hide ((unhide HK2).set _ 3 _ rfl)
            clear f
            go_upto_region 15 with fail
            clear a0 a1 a2 a3 a4 a5 b0 b1 b2 b3 b4 b5
            clear x0 x1 x2 x3 x4 x5 z0 z1 z2 z3 fi
            generalize v2.setCell ⟨gw, 3, none⟩ (.int .i64 (a.z.e + b.z.e - sz.e)) = v3 at *
            have HKB : Hid (J5 w ga gb gr gz gw a b zeroWe sz (bothW a b) v3) := hide (by rw [unhide HBO, Int.sub_zero]; exact unhide HK3)
            clear HK0 HK1 HK2 HK3
            obtain ⟨x0, x1, x2, x3, x4, x5, _⟩ := cells6 (unhide HKB).xw
            go_wp2_with fail
            refine (unhide RV (bothW a b) (unhide HBOT) v3).mono ?_
            rintro y v4 ⟨rfl, u4⟩
            dsimp only
            have HKC := hide ((unhide HKB).on u4)
            clear HKB u4 x0 x1 x2 x3 x4 x5
            cases hvv : validB (bothW a b) with
            | false =>
              have hj : joinL a b = (zeroWe, ⟨0, 0, 0, 0⟩, 50) := by unfold joinL; rw [(unhide HVA).1, (unhide HVA).2, if_neg (by decide), if_neg (by have := unhide HMM; omega), if_pos hvv]
              obtain ⟨c0, c1, c2, c3, c4, c5, f⟩ := cells6 (unhide HKC).j.xr
              have f0 := f 0
              have f1 := f 1
              have f2 := f 2
              have f3 := f 3
              have f4 := f 4
              have f5 := f 5
              have HF : Hid (J3 w ga gb gr a b zeroWe ((((((v4.setCell ⟨gr, 0, none⟩ (.int .i64 0)).setCell ⟨gr, 1, none⟩ (.int .i64 0)).setCell ⟨gr, 2, none⟩ (.int .i64 0)).setCell ⟨gr, 3, none⟩ (.int .i64 0)).setCell ⟨gr, 4, none⟩ (.string ⟨#[]⟩)).setCell ⟨gr, 5, none⟩ (.string ⟨#[]⟩))) := hide ((unhide HKC).j.setr zeroWe)
              clear f
              try dsimp only
              go_wp2_with fail
              clear c0 c1 c2 c3 c4 c5 f0 f1 f2 f3 f4 f5
              generalize ((((((v4.setCell ⟨gr, 0, none⟩ (.int .i64 0)).setCell ⟨gr, 1, none⟩ (.int .i64 0)).setCell ⟨gr, 2, none⟩ (.int .i64 0)).setCell ⟨gr, 3, none⟩ (.int .i64 0)).setCell ⟨gr, 4, none⟩ (.string ⟨#[]⟩)).setCell ⟨gr, 5, none⟩ (.string ⟨#[]⟩)) = wf at *
              obtain ⟨c0, c1, c2, c3, c4, c5, _⟩ := cells6 (unhide HF).xr
              refine bodyPost_ret (v := .tuple #[weV zeroWe, .int .i64 50]) (by simp [results, Tryd.results9, go_sem, c0, c1, c2, c3, c4, c5, weV]) rfl ⟨by rw [hj]; first | rfl | done, (unhide HF).below⟩
            | true =>
              have hj : joinL a b = (bothW a b, seamL a.t b.h, 0) := by unfold joinL; rw [(unhide HVA).1, (unhide HVA).2, if_neg (by decide), if_neg (by have := unhide HMM; omega), if_neg (by rw [hvv]; decide)]
              obtain ⟨x0, x1, x2, x3, x4, x5, _⟩ := cells6 (unhide HKC).xw
              obtain ⟨c0, c1, c2, c3, c4, c5, f⟩ := cells6 (unhide HKC).j.xr
              have f0 := f 0
              have f1 := f 1
              have f2 := f 2
              have f3 := f 3
              have f4 := f 4
              have f5 := f 5
              have HF : Hid (J3 w ga gb gr a b (bothW a b) ((((((v4.setCell ⟨gr, 0, none⟩ (.int .i64 (bothW a b).z.b)).setCell ⟨gr, 1, none⟩ (.int .i64 (bothW a b).z.r)).setCell ⟨gr, 2, none⟩ (.int .i64 (bothW a b).z.u)).setCell ⟨gr, 3, none⟩ (.int .i64 (bothW a b).z.e)).setCell ⟨gr, 4, none⟩ (.string (strOfNums (bothW a b).h))).setCell ⟨gr, 5, none⟩ (.string (strOfNums (bothW a b).t)))) := hide ((unhide HKC).j.setr (bothW a b))
              clear f
              go_wp2_with fail
              clear c0 c1 c2 c3 c4 c5 f0 f1 f2 f3 f4 f5 x0 x1 x2 x3 x4 x5
              generalize ((((((v4.setCell ⟨gr, 0, none⟩ (.int .i64 (bothW a b).z.b)).setCell ⟨gr, 1, none⟩ (.int .i64 (bothW a b).z.r)).setCell ⟨gr, 2, none⟩ (.int .i64 (bothW a b).z.u)).setCell ⟨gr, 3, none⟩ (.int .i64 (bothW a b).z.e)).setCell ⟨gr, 4, none⟩ (.string (strOfNums (bothW a b).h))).setCell ⟨gr, 5, none⟩ (.string (strOfNums (bothW a b).t))) = wf at *
              obtain ⟨c0, c1, c2, c3, c4, c5, _⟩ := cells6 (unhide HF).xr
              refine bodyPost_ret (v := .tuple #[weV (bothW a b), .int .i64 0]) (by simp [results, Tryd.results9, go_sem, c0, c1, c2, c3, c4, c5, weV]) rfl ⟨by rw [hj]; first | rfl | done, (unhide HF).below⟩
        · have hhi : ¬ ((a.h.length : Int) < 3) := by omega
          have HJ7 : Hid (J5 w ga gb gr gz gw a b zeroWe sz ⟨⟨0, 0, 0, 0⟩, (a.h ++ b.h).take 3, b.t⟩ w5) := hide (by rw [head_len3 hh ia3]; exact unhide HJ5)
          obtain ⟨a0, a1, a2, a3, a4, a5, _⟩ := cells6 ((unhide HJ5).j).xa
          obtain ⟨b0, b1, b2, b3, b4, b5, _⟩ := cells6 ((unhide HJ5).j).xb
          clear HJ5
          go_upto_region 9 with fail
          clear a0 a1 a2 a3 a4 a5 b0 b1 b2 b3 b4 b5
          generalize w5 = w7 at *
          by_cases ht : b.t.length < 3
          · have hti : (b.t.length : Int) < 3 := by omega
            obtain ⟨a0, a1, a2, a3, a4, a5, _⟩ := cells6 ((unhide HJ7).j).xa
            obtain ⟨b0, b1, b2, b3, b4, b5, _⟩ := cells6 ((unhide HJ7).j).xb
            go_wp2_with fail
            refine (Rtail_at (a.t ++ b.t) w7 (by rw [List.length_append]; omega)).mono ?_
            rintro y w8 ⟨rfl, rfl⟩
            dsimp only
            have HJ8 := unhide HJ7
            obtain ⟨x0, x1, x2, x3, x4, x5, f⟩ := cells6 HJ8.xw
            have f5 := f 5
            have HJ9 : Hid (J5 w ga gb gr gz gw a b zeroWe sz ⟨⟨0, 0, 0, 0⟩, (a.h ++ b.h).take 3, tail3 (a.t ++ b.t)⟩ (w8.setCell ⟨gw, 5, none⟩ (.string (strOfNums (tail3 (a.t ++ b.t)))))) := hide (HJ8.set _ 5 _ rfl)
            clear f HJ7
            go_upto_region 11 with fail
            clear a0 a1 a2 a3 a4 a5 b0 b1 b2 b3 b4 b5 x0 x1 x2 x3 x4 x5 f5 HJ8
            generalize w8.setCell ⟨gw, 5, none⟩ (.string (strOfNums (tail3 (a.t ++ b.t)))) = w9 at *
            obtain ⟨a0, a1, a2, a3, a4, a5, _⟩ := cells6 ((unhide HJ9).j).xa
            obtain ⟨b0, b1, b2, b3, b4, b5, _⟩ := cells6 ((unhide HJ9).j).xb
            obtain ⟨x0, x1, x2, x3, x4, x5, f⟩ := cells6 (unhide HJ9).xw
            obtain ⟨z0, z1, z2, z3, _⟩ := cells4 (unhide HJ9).xz
            have fi := f 0
            have HK0 : Hid (J5 w ga gb gr gz gw a b zeroWe sz ⟨⟨a.z.b + b.z.b, 0, 0, 0⟩, (a.h ++ b.h).take 3, tail3 (a.t ++ b.t)⟩ (w9.setCell ⟨gw, 0, none⟩ (.int .i64 (a.z.b + b.z.b)))) := hide ((unhide HJ9).set _ 0 _ rfl)
            clear f
            go_upto_region 12 with fail
            clear a0 a1 a2 a3 a4 a5 b0 b1 b2 b3 b4 b5
            clear x0 x1 x2 x3 x4 x5 z0 z1 z2 z3 fi
            generalize w9.setCell ⟨gw, 0, none⟩ (.int .i64 (a.z.b + b.z.b)) = v0 at *
            obtain ⟨a0, a1, a2, a3, a4, a5, _⟩ := cells6 ((unhide HK0).j).xa
            obtain ⟨b0, b1, b2, b3, b4, b5, _⟩ := cells6 ((unhide HK0).j).xb
            obtain ⟨x0, x1, x2, x3, x4, x5, f⟩ := cells6 (unhide HK0).xw
            obtain ⟨z0, z1, z2, z3, _⟩ := cells4 (unhide HK0).xz
            have fi := f 1
            have HK1 : Hid (J5 w ga gb gr gz gw a b zeroWe sz ⟨⟨a.z.b + b.z.b, a.z.r + b.z.r - sz.r, 0, 0⟩, (a.h ++ b.h).take 3, tail3 (a.t ++ b.t)⟩ (v0.setCell ⟨gw, 1, none⟩ (.int .i64 (a.z.r + b.z.r - sz.r)))) := hide ((unhide HK0).set _ 1 _ rfl)
            clear f
            go_upto_region 13 with fail
            clear a0 a1 a2 a3 a4 a5 b0 b1 b2 b3 b4 b5
            clear x0 x1 x2 x3 x4 x5 z0 z1 z2 z3 fi
            generalize v0.setCell ⟨gw, 1, none⟩ (.int .i64 (a.z.r + b.z.r - sz.r)) = v1 at *
            obtain ⟨a0, a1, a2, a3, a4, a5, _⟩ := cells6 ((unhide HK1).j).xa
            obtain ⟨b0, b1, b2, b3, b4, b5, _⟩ := cells6 ((unhide HK1).j).xb
            obtain ⟨x0, x1, x2, x3, x4, x5, f⟩ := cells6 (unhide HK1).xw
            obtain ⟨z0, z1, z2, z3, _⟩ := cells4 (unhide HK1).xz
            have fi := f 2
            have HK2 : Hid (J5 w ga gb gr gz gw a b zeroWe sz ⟨⟨a.z.b + b.z.b, a.z.r + b.z.r - sz.r, a.z.u + b.z.u - sz.u, 0⟩, (a.h ++ b.h).take 3, tail3 (a.t ++ b.t)⟩ (v1.setCell ⟨gw, 2, none⟩ (.int .i64 (a.z.u + b.z.u - sz.u)))) := hide ((unhide HK1).set _ 2 _ rfl)
            clear f
            go_upto_region 14 with fail
            clear a0 a1 a2 a3 a4 a5 b0 b1 b2 b3 b4 b5
            clear x0 x1 x2 x3 x4 x5 z0 z1 z2 z3 fi
            generalize v1.setCell ⟨gw, 2, none⟩ (.int .i64 (a.z.u + b.z.u - sz.u)) = v2 at *
            obtain ⟨a0, a1, a2, a3, a4, a5, _⟩ := cells6 ((unhide HK2).j).xa
            obtain ⟨b0, b1, b2, b3, b4, b5, _⟩ := cells6 ((unhide HK2).j).xb
            obtain ⟨x0, x1, x2, x3, x4, x5, f⟩ := cells6 (unhide HK2).xw
            obtain ⟨z0, z1, z2, z3, _⟩ := cells4 (unhide HK2).xz
            have fi := f 3
            have HK3 : Hid (J5 w ga gb gr gz gw a b zeroWe sz ⟨⟨a.z.b + b.z.b, a.z.r + b.z.r - sz.r, a.z.u + b.z.u - sz.u, a.z.e + b.z.e - sz.e⟩, (a.h ++ b.h).take 3, tail3 (a.t ++ b.t)⟩ (v2.setCell ⟨gw, 3, none⟩ (.int .i64 (a.z.e + b.z.e - sz.e)))) := hide ((unhide HK2).set _ 3 _ rfl)
            clear f
            go_upto_region 15 with fail
            clear a0 a1 a2 a3 a4 a5 b0 b1 b2 b3 b4 b5
            clear x0 x1 x2 x3 x4 x5 z0 z1 z2 z3 fi
            generalize v2.setCell ⟨gw, 3, none⟩ (.int .i64 (a.z.e + b.z.e - sz.e)) = v3 at *
            have HKB : Hid (J5 w ga gb gr gz gw a b zeroWe sz (bothW a b) v3) := hide (by rw [unhide HBO, Int.sub_zero]; exact unhide HK3)
            clear HK0 HK1 HK2 HK3
            obtain ⟨x0, x1, x2, x3, x4, x5, _⟩ := cells6 (unhide HKB).xw
            go_wp2_with fail
            refine (unhide RV (bothW a b) (unhide HBOT) v3).mono ?_
            rintro y v4 ⟨rfl, u4⟩
            dsimp only
            have HKC := hide ((unhide HKB).on u4)
            clear HKB u4 x0 x1 x2 x3 x4 x5
            cases hvv : validB (bothW a b) with
            | false =>
              have hj : joinL a b = (zeroWe, ⟨0, 0, 0, 0⟩, 50) := by unfold joinL; rw [(unhide HVA).1, (unhide HVA).2, if_neg (by decide), if_neg (by have := unhide HMM; omega), if_pos hvv]
              obtain ⟨c0, c1, c2, c3, c4, c5, f⟩ := cells6 (unhide HKC).j.xr
              have f0 := f 0
              have f1 := f 1
              have f2 := f 2
              have f3 := f 3
              have f4 := f 4
              have f5 := f 5
              have HF : Hid (J3 w ga gb gr a b zeroWe ((((((v4.setCell ⟨gr, 0, none⟩ (.int .i64 0)).setCell ⟨gr, 1, none⟩ (.int .i64 0)).setCell ⟨gr, 2, none⟩ (.int .i64 0)).setCell ⟨gr, 3, none⟩ (.int .i64 0)).setCell ⟨gr, 4, none⟩ (.string ⟨#[]⟩)).setCell ⟨gr, 5, none⟩ (.string ⟨#[]⟩))) := hide ((unhide HKC).j.setr zeroWe)
              clear f
              try dsimp only
              go_wp2_with fail
              clear c0 c1 c2 c3 c4 c5 f0 f1 f2 f3 f4 f5
              generalize ((((((v4.setCell ⟨gr, 0, none⟩ (.int .i64 0)).setCell ⟨gr, 1, none⟩ (.int .i64 0)).setCell ⟨gr, 2, none⟩ (.int .i64 0)).setCell ⟨gr, 3, none⟩ (.int .i64 0)).setCell ⟨gr, 4, none⟩ (.string ⟨#[]⟩)).setCell ⟨gr, 5, none⟩ (.string ⟨#[]⟩)) = wf at *
              obtain ⟨c0, c1, c2, c3, c4, c5, _⟩ := cells6 (unhide HF).xr
              refine bodyPost_ret (v := .tuple #[weV zeroWe, .int .i64 50]) (by simp [results, Tryd.results9, go_sem, c0, c1, c2, c3, c4, c5, weV]) rfl ⟨by rw [hj]; first | rfl | done, (unhide HF).below⟩
            | true =>
              have hj : joinL a b = (bothW a b, seamL a.t b.h, 0) := by unfold joinL; rw [(unhide HVA).1, (unhide HVA).2, if_neg (by decide), if_neg (by have := unhide HMM; omega), if_neg (by rw [hvv]; decide)]
              obtain ⟨x0, x1, x2, x3, x4, x5, _⟩ := cells6 (unhide HKC).xw
              obtain ⟨c0, c1, c2, c3, c4, c5, f⟩ := cells6 (unhide HKC).j.xr
              have f0 := f 0
              have f1 := f 1
              have f2 := f 2
              have f3 := f 3
              have f4 := f 4
              have f5 := f 5
              have HF : Hid (J3 w ga gb gr a b (bothW a b) ((((((v4.setCell ⟨gr, 0, none⟩ (.int .i64 (bothW a b).z.b)).setCell ⟨gr, 1, none⟩ (.int .i64 (bothW a b).z.r)).setCell ⟨gr, 2, none⟩ (.int .i64 (bothW a b).z.u)).setCell ⟨gr, 3, none⟩ (.int .i64 (bothW a b).z.e)).setCell ⟨gr, 4, none⟩ (.string (strOfNums (bothW a b).h))).setCell ⟨gr, 5, none⟩ (.string (strOfNums (bothW a b).t)))) := hide ((unhide HKC).j.setr (bothW a b))
              clear f
              go_wp2_with fail
              clear c0 c1 c2 c3 c4 c5 f0 f1 f2 f3 f4 f5 x0 x1 x2 x3 x4 x5
              generalize ((((((v4.setCell ⟨gr, 0, none⟩ (.int .i64 (bothW a b).z.b)).setCell ⟨gr, 1, none⟩ (.int .i64 (bothW a b).z.r)).setCell ⟨gr, 2, none⟩ (.int .i64 (bothW a b).z.u)).setCell ⟨gr, 3, none⟩ (.int .i64 (bothW a b).z.e)).setCell ⟨gr, 4, none⟩ (.string (strOfNums (bothW a b).h))).setCell ⟨gr, 5, none⟩ (.string (strOfNums (bothW a b).t))) = wf at *
              obtain ⟨c0, c1, c2, c3, c4, c5, _⟩ := cells6 (unhide HF).xr
              refine bodyPost_ret (v := .tuple #[weV (bothW a b), .int .i64 0]) (by simp [results, Tryd.results9, go_sem, c0, c1, c2, c3, c4, c5, weV]) rfl ⟨by rw [hj]; first | rfl | done, (unhide HF).below⟩
          · have hti : ¬ ((b.t.length : Int) < 3) := by omega
            have HJ9 : Hid (J5 w ga gb gr gz gw a b zeroWe sz ⟨⟨0, 0, 0, 0⟩, (a.h ++ b.h).take 3, tail3 (a.t ++ b.t)⟩ w7) := hide (by rw [tail_len3 ht ibt]; exact unhide HJ7)
            obtain ⟨a0, a1, a2, a3, a4, a5, _⟩ := cells6 ((unhide HJ7).j).xa
            obtain ⟨b0, b1, b2, b3, b4, b5, _⟩ := cells6 ((unhide HJ7).j).xb
            clear HJ7
            go_upto_region 11 with fail
            clear a0 a1 a2 a3 a4 a5 b0 b1 b2 b3 b4 b5
            generalize w7 = w9 at *
            obtain ⟨a0, a1, a2, a3, a4, a5, _⟩ := cells6 ((unhide HJ9).j).xa
            obtain ⟨b0, b1, b2, b3, b4, b5, _⟩ := cells6 ((unhide HJ9).j).xb
            obtain ⟨x0, x1, x2, x3, x4, x5, f⟩ := cells6 (unhide HJ9).xw
            obtain ⟨z0, z1, z2, z3, _⟩ := cells4 (unhide HJ9).xz
            have fi := f 0
            have HK0 : Hid (J5 w ga gb gr gz gw a b zeroWe sz ⟨⟨a.z.b + b.z.b, 0, 0, 0⟩, (a.h ++ b.h).take 3, tail3 (a.t ++ b.t)⟩ (w9.setCell ⟨gw, 0, none⟩ (.int .i64 (a.z.b + b.z.b)))) := hide ((unhide HJ9).set _ 0 _ rfl)
            clear f
            go_upto_region 12 with fail
            clear a0 a1 a2 a3 a4 a5 b0 b1 b2 b3 b4 b5
            clear x0 x1 x2 x3 x4 x5 z0 z1 z2 z3 fi
            generalize w9.setCell ⟨gw, 0, none⟩ (.int .i64 (a.z.b + b.z.b)) = v0 at *
            obtain ⟨a0, a1, a2, a3, a4, a5, _⟩ := cells6 ((unhide HK0).j).xa
            obtain ⟨b0, b1, b2, b3, b4, b5, _⟩ := cells6 ((unhide HK0).j).xb
            obtain ⟨x0, x1, x2, x3, x4, x5, f⟩ := cells6 (unhide HK0).xw
            obtain ⟨z0, z1, z2, z3, _⟩ := cells4 (unhide HK0).xz
            have fi := f 1
            have HK1 : Hid (J5 w ga gb gr gz gw a b zeroWe sz ⟨⟨a.z.b + b.z.b, a.z.r + b.z.r - sz.r, 0, 0⟩, (a.h ++ b.h).take 3, tail3 (a.t ++ b.t)⟩ (v0.setCell ⟨gw, 1, none⟩ (.int .i64 (a.z.r + b.z.r - sz.r)))) := hide ((unhide HK0).set _ 1 _ rfl)
            clear f
            go_upto_region 13 with fail
            clear a0 a1 a2 a3 a4 a5 b0 b1 b2 b3 b4 b5
            clear x0 x1 x2 x3 x4 x5 z0 z1 z2 z3 fi
            generalize v0.setCell ⟨gw, 1, none⟩ (.int .i64 (a.z.r + b.z.r - sz.r)) = v1 at *
            obtain ⟨a0, a1, a2, a3, a4, a5, _⟩ := cells6 ((unhide HK1).j).xa
            obtain ⟨b0, b1, b2, b3, b4, b5, _⟩ := cells6 ((unhide HK1).j).xb
            obtain ⟨x0, x1, x2, x3, x4, x5, f⟩ := cells6 (unhide HK1).xw
            obtain ⟨z0, z1, z2, z3, _⟩ := cells4 (unhide HK1).xz
            have fi := f 2
            have HK2 : Hid (J5 w ga gb gr gz gw a b zeroWe sz ⟨⟨a.z.b + b.z.b, a.z.r + b.z.r - sz.r, a.z.u + b.z.u - sz.u, 0⟩, (a.h ++ b.h).take 3, tail3 (a.t ++ b.t)⟩ (v1.setCell ⟨gw, 2, none⟩ (.int .i64 (a.z.u + b.z.u - sz.u)))) := hide ((unhide HK1).set _ 2 _ rfl)
            clear f
            go_upto_region 14 with fail
            clear a0 a1 a2 a3 a4 a5 b0 b1 b2 b3 b4 b5
            clear x0 x1 x2 x3 x4 x5 z0 z1 z2 z3 fi
            generalize v1.setCell ⟨gw, 2, none⟩ (.int .i64 (a.z.u + b.z.u - sz.u)) = v2 at *
            obtain ⟨a0, a1, a2, a3, a4, a5, _⟩ := cells6 ((unhide HK2).j).xa
            obtain ⟨b0, b1, b2, b3, b4, b5, _⟩ := cells6 ((unhide HK2).j).xb
            obtain ⟨x0, x1, x2, x3, x4, x5, f⟩ := cells6 (unhide HK2).xw
            obtain ⟨z0, z1, z2, z3, _⟩ := cells4 (unhide HK2).xz
            have fi := f 3
            have HK3 : Hid (J5 w ga gb gr gz gw a b zeroWe sz ⟨⟨a.z.b + b.z.b, a.z.r + b.z.r - sz.r, a.z.u + b.z.u - sz.u, a.z.e + b.z.e - sz.e⟩, (a.h ++ b.h).take 3, tail3 (a.t ++ b.t)⟩ (v2.setCell ⟨gw, 3, none⟩ (.int .i64 (a.z.e + b.z.e - sz.e)))) := hide ((unhide HK2).set _ 3 _ rfl)
            clear f
            go_upto_region 15 with fail
            clear a0 a1 a2 a3 a4 a5 b0 b1 b2 b3 b4 b5
            clear x0 x1 x2 x3 x4 x5 z0 z1 z2 z3 fi
            generalize v2.setCell ⟨gw, 3, none⟩ (.int .i64 (a.z.e + b.z.e - sz.e)) = v3 at *
            have HKB : Hid (J5 w ga gb gr gz gw a b zeroWe sz (bothW a b) v3) := hide (by rw [unhide HBO, Int.sub_zero]; exact unhide HK3)
            clear HK0 HK1 HK2 HK3
            obtain ⟨x0, x1, x2, x3, x4, x5, _⟩ := cells6 (unhide HKB).xw
            go_wp2_with fail
            refine (unhide RV (bothW a b) (unhide HBOT) v3).mono ?_
            rintro y v4 ⟨rfl, u4⟩
            dsimp only
            have HKC := hide ((unhide HKB).on u4)
            clear HKB u4 x0 x1 x2 x3 x4 x5
            cases hvv : validB (bothW a b) with
            | false =>
              have hj : joinL a b = (zeroWe, ⟨0, 0, 0, 0⟩, 50) := by unfold joinL; rw [(unhide HVA).1, (unhide HVA).2, if_neg (by decide), if_neg (by have := unhide HMM; omega), if_pos hvv]
              obtain ⟨c0, c1, c2, c3, c4, c5, f⟩ := cells6 (unhide HKC).j.xr
              have f0 := f 0
              have f1 := f 1
              have f2 := f 2
              have f3 := f 3
              have f4 := f 4
              have f5 := f 5
              have HF : Hid (J3 w ga gb gr a b zeroWe ((((((v4.setCell ⟨gr, 0, none⟩ (.int .i64 0)).setCell ⟨gr, 1, none⟩ (.int .i64 0)).setCell ⟨gr, 2, none⟩ (.int .i64 0)).setCell ⟨gr, 3, none⟩ (.int .i64 0)).setCell ⟨gr, 4, none⟩ (.string ⟨#[]⟩)).setCell ⟨gr, 5, none⟩ (.string ⟨#[]⟩))) := hide ((unhide HKC).j.setr zeroWe)
              clear f
              try dsimp only
              go_wp2_with fail
              clear c0 c1 c2 c3 c4 c5 f0 f1 f2 f3 f4 f5
              generalize ((((((v4.setCell ⟨gr, 0, none⟩ (.int .i64 0)).setCell ⟨gr, 1, none⟩ (.int .i64 0)).setCell ⟨gr, 2, none⟩ (.int .i64 0)).setCell ⟨gr, 3, none⟩ (.int .i64 0)).setCell ⟨gr, 4, none⟩ (.string ⟨#[]⟩)).setCell ⟨gr, 5, none⟩ (.string ⟨#[]⟩)) = wf at *
              obtain ⟨c0, c1, c2, c3, c4, c5, _⟩ := cells6 (unhide HF).xr
              refine bodyPost_ret (v := .tuple #[weV zeroWe, .int .i64 50]) (by simp [results, Tryd.results9, go_sem, c0, c1, c2, c3, c4, c5, weV]) rfl ⟨by rw [hj]; first | rfl | done, (unhide HF).below⟩
            | true =>
              have hj : joinL a b = (bothW a b, seamL a.t b.h, 0) := by unfold joinL; rw [(unhide HVA).1, (unhide HVA).2, if_neg (by decide), if_neg (by have := unhide HMM; omega), if_neg (by rw [hvv]; decide)]
              obtain ⟨x0, x1, x2, x3, x4, x5, _⟩ := cells6 (unhide HKC).xw
              obtain ⟨c0, c1, c2, c3, c4, c5, f⟩ := cells6 (unhide HKC).j.xr
              have f0 := f 0
              have f1 := f 1
              have f2 := f 2
              have f3 := f 3
              have f4 := f 4
              have f5 := f 5
              have HF : Hid (J3 w ga gb gr a b (bothW a b) ((((((v4.setCell ⟨gr, 0, none⟩ (.int .i64 (bothW a b).z.b)).setCell ⟨gr, 1, none⟩ (.int .i64 (bothW a b).z.r)).setCell ⟨gr, 2, none⟩ (.int .i64 (bothW a b).z.u)).setCell ⟨gr, 3, none⟩ (.int .i64 (bothW a b).z.e)).setCell ⟨gr, 4, none⟩ (.string (strOfNums (bothW a b).h))).setCell ⟨gr, 5, none⟩ (.string (strOfNums (bothW a b).t)))) := hide ((unhide HKC).j.setr (bothW a b))
              clear f
              go_wp2_with fail
              clear c0 c1 c2 c3 c4 c5 f0 f1 f2 f3 f4 f5 x0 x1 x2 x3 x4 x5
              generalize ((((((v4.setCell ⟨gr, 0, none⟩ (.int .i64 (bothW a b).z.b)).setCell ⟨gr, 1, none⟩ (.int .i64 (bothW a b).z.r)).setCell ⟨gr, 2, none⟩ (.int .i64 (bothW a b).z.u)).setCell ⟨gr, 3, none⟩ (.int .i64 (bothW a b).z.e)).setCell ⟨gr, 4, none⟩ (.string (strOfNums (bothW a b).h))).setCell ⟨gr, 5, none⟩ (.string (strOfNums (bothW a b).t))) = wf at *
              obtain ⟨c0, c1, c2, c3, c4, c5, _⟩ := cells6 (unhide HF).xr
              refine bodyPost_ret (v := .tuple #[weV (bothW a b), .int .i64 0]) (by simp [results, Tryd.results9, go_sem, c0, c1, c2, c3, c4, c5, weV]) rfl ⟨by rw [hj]; first | rfl | done, (unhide HF).below⟩
end Go.Proofs.YtchlnphapnafcaaDoor
end

section
namespace Go.Proofs.YtchlnphapnafcaaDoor
open Go.ChangeShapes Go.WideShapes Go.ChangeAt Go.RowKit

theorem join_kinds (a b : We) : (∃ e, e ≠ 0 ∧ joinL a b = (zeroWe, ⟨0, 0, 0, 0⟩, e)) ∨ (joinL a b = (bothW a b, seamL a.t b.h, 0) ∧ validB a = true ∧ validB b = true ∧ validB (bothW a b) = true) := by
  unfold joinL
  cases hva : validB a with
  | false => exact Or.inl ⟨50, by decide, by rfl⟩
  | true =>
    cases hvb : validB b with
    | false => exact Or.inl ⟨50, by decide, by rfl⟩
    | true =>
      rw [if_neg (by decide)]
      by_cases hM : 268435456 < a.z.b + b.z.b
      · rw [if_pos hM]; exact Or.inl ⟨5, by decide, rfl⟩
      · rw [if_neg hM]
        cases hvv : validB (bothW a b) with
        | false => rw [if_pos rfl]; exact Or.inl ⟨50, by decide, rfl⟩
        | true => rw [if_neg (by decide)]; exact Or.inr ⟨rfl, rfl, rfl, rfl⟩
structure K3 (w : World) (ga gb gr : Nat) (a b : We) (X : World) : Prop where
  xa : X.heap[ga]? = some (.cells (wc a) 25 (0, 0))
  xb : X.heap[gb]? = some (.cells (wc b) 25 (0, 0))
  xr : H4 X gr 23 (.int .i64 0) (.int .i64 0) (.int .i64 0) (.int .i64 0)
  below : Below w.heap.size w X
  lo : w.heap.size ≤ ga ∧ w.heap.size ≤ gb ∧ w.heap.size ≤ gr
theorem K3.on {w : World} {ga gb gr : Nat} {a b : We} {X Y : World} (p : K3 w ga gb gr a b X) (h : Below X.heap.size X Y) : K3 w ga gb gr a b Y :=
  ⟨blk_on p.xa h, blk_on p.xb h, p.xr.on h, p.below.trans (h.mono p.below.size), p.lo⟩
set_option maxRecDepth 100000 in
set_option maxHeartbeats 4000000 in
theorem RSeam_at (a b : We) (w : World) (ha : Byw a) (hb : Byw b) :
    Calls Tryd.prog 11 #[weV a, weV b] w fun y w' => y = .returned (.tuple #[szV (joinL a b).2.1, .int .i64 (joinL a b).2.2]) ∧ Below w.heap.size w w' := by
  have HJ1 : Hid (K3 w w.heap.size (w.heap.size + 1) (w.heap.size + 1 + 1) a b (((w.alloc (.cells #[.int .i64 a.z.b, .int .i64 a.z.r, .int .i64 a.z.u, .int .i64 a.z.e, .string (strOfNums a.h), .string (strOfNums a.t)] 25)).alloc (.cells #[.int .i64 b.z.b, .int .i64 b.z.r, .int .i64 b.z.u, .int .i64 b.z.e, .string (strOfNums b.h), .string (strOfNums b.t)] 25)).alloc (.cells #[.int .i64 0, .int .i64 0, .int .i64 0, .int .i64 0] 23))) := hide (by
    have za : (w.alloc (.cells #[.int .i64 a.z.b, .int .i64 a.z.r, .int .i64 a.z.u, .int .i64 a.z.e, .string (strOfNums a.h), .string (strOfNums a.t)] 25)).heap.size = w.heap.size + 1 := World.size_alloc ..
    have zb : ((w.alloc (.cells #[.int .i64 a.z.b, .int .i64 a.z.r, .int .i64 a.z.u, .int .i64 a.z.e, .string (strOfNums a.h), .string (strOfNums a.t)] 25)).alloc (.cells #[.int .i64 b.z.b, .int .i64 b.z.r, .int .i64 b.z.u, .int .i64 b.z.e, .string (strOfNums b.h), .string (strOfNums b.t)] 25)).heap.size = w.heap.size + 1 + 1 := by rw [World.size_alloc, za]
    refine ⟨?_, ?_, ?_, (((Below.refl _ _).alloc (Nat.le_refl _) _).alloc (by omega) _).alloc (by omega) _, ⟨by omega, by omega, by omega⟩⟩
    · rw [heap_alloc_old _ _ (by omega), heap_alloc_old _ _ (by omega)]
      exact push_get w _
    · rw [heap_alloc_old _ _ (by omega)]
      have := push_get (w.alloc (.cells #[.int .i64 a.z.b, .int .i64 a.z.r, .int .i64 a.z.u, .int .i64 a.z.e, .string (strOfNums a.h), .string (strOfNums a.t)] 25)) (.cells #[.int .i64 b.z.b, .int .i64 b.z.r, .int .i64 b.z.u, .int .i64 b.z.e, .string (strOfNums b.h), .string (strOfNums b.t)] 25)
      rwa [za] at this
    · have := push_get ((w.alloc (.cells #[.int .i64 a.z.b, .int .i64 a.z.r, .int .i64 a.z.u, .int .i64 a.z.e, .string (strOfNums a.h), .string (strOfNums a.t)] 25)).alloc (.cells #[.int .i64 b.z.b, .int .i64 b.z.r, .int .i64 b.z.u, .int .i64 b.z.e, .string (strOfNums b.h), .string (strOfNums b.t)] 25)) (.cells #[.int .i64 0, .int .i64 0, .int .i64 0, .int .i64 0] 23)
      rwa [zb] at this)
  have RJ : Hid (∀ W, Calls Tryd.prog 9 #[.agg #[.int .i64 a.z.b, .int .i64 a.z.r, .int .i64 a.z.u, .int .i64 a.z.e, .string (strOfNums a.h), .string (strOfNums a.t)], .agg #[.int .i64 b.z.b, .int .i64 b.z.r, .int .i64 b.z.u, .int .i64 b.z.e, .string (strOfNums b.h), .string (strOfNums b.t)]] W fun y w' => y = .returned (.tuple #[weV (joinL a b).1, .int .i64 (joinL a b).2.2]) ∧ Below W.heap.size W w') := hide (fun W => RJoin_at a b W ha hb)
  have HA := hide ha
  have HB := hide hb
  clear ha hb
  unfold weV
  go_enter Tryd.func11, Tryd.ntmps11
  go_upto_region 1 with fail
  generalize (((w.alloc (.cells #[.int .i64 a.z.b, .int .i64 a.z.r, .int .i64 a.z.u, .int .i64 a.z.e, .string (strOfNums a.h), .string (strOfNums a.t)] 25)).alloc (.cells #[.int .i64 b.z.b, .int .i64 b.z.r, .int .i64 b.z.u, .int .i64 b.z.e, .string (strOfNums b.h), .string (strOfNums b.t)] 25)).alloc (.cells #[.int .i64 0, .int .i64 0, .int .i64 0, .int .i64 0] 23)) = w1 at *
  generalize w.heap.size + 1 + 1 = gr at *
  generalize w.heap.size + 1 = gb at *
  generalize hga : w.heap.size = ga at HJ1 ⊢
  clear hga
  obtain ⟨a0, a1, a2, a3, a4, a5, _⟩ := cells6 (unhide HJ1).xa
  obtain ⟨b0, b1, b2, b3, b4, b5, _⟩ := cells6 (unhide HJ1).xb
  rcases join_kinds a b with ⟨e, he, hj⟩ | ⟨hj, hva, hvb, _⟩
  · rw [hj] at RJ
    have HJJ := hide hj
    clear hj
    unfold weV zeroWe at RJ
    have hei : (e == 0) = false := by rw [beq_eq_false_iff_ne]; exact he
    have hei2 : (e != 0) = true := by rw [bne_iff_ne]; exact he
    go_wp2_with fail
    refine (unhide RJ w1).mono ?_
    rintro y w2 ⟨rfl, b2⟩
    dsimp only
    have HJ2 := (unhide HJ1).on (b2.alloc b2.size (.cells #[.int .i64 0, .int .i64 0, .int .i64 0, .int .i64 0, .string ⟨#[]⟩, .string ⟨#[]⟩] 25))
    obtain ⟨c0, c1, c2, c3, f⟩ := HJ2.xr.cells
    have f0 := f 0
    have f1 := f 1
    have f2 := f 2
    have f3 := f 3
    have v := HJ2.xr.all (.int .i64 0) (.int .i64 0) (.int .i64 0) (.int .i64 0)
    have DD := below4 HJ2.below HJ2.lo.2.2 (.int .i64 0) (.int .i64 0) (.int .i64 0) (.int .i64 0)
    obtain ⟨v0, v1, v2, v3, _⟩ := v.cells
    clear f v
    have V := hide (And.intro v0 (And.intro v1 (And.intro v2 v3)))
    have hse : (strOfNums []) = ⟨#[]⟩ := rfl
    clear v0 v1 v2 v3 a0 a1 a2 a3 a4 a5 b0 b1 b2 b3 b4 b5
    try simp only [hse] at *
    go_wp2_with fail
    obtain ⟨v0, v1, v2, v3⟩ := unhide V
    refine bodyPost_ret (v := .tuple #[szV ⟨0, 0, 0, 0⟩, .int .i64 e]) (by simp [results, Tryd.results11, go_sem, v0, v1, v2, v3, szV]) rfl ⟨by rw [unhide HJJ], DD⟩
  · rw [hj] at RJ
    have HJJ := hide hj
    have hia := valid_in hva
    have hib := valid_in hvb
    have RS := hide (fun W => Rseam_at a b W (unhide HA) (unhide HB) hia.2.2.1 hib.2.1)
    unfold weV at RJ RS
    dsimp only at RJ
    clear hia hib hva hvb hj
    go_wp2_with fail
    refine (unhide RJ w1).mono ?_
    rintro y w2 ⟨rfl, b2⟩
    dsimp only
    have HJ2 := (unhide HJ1).on (b2.alloc b2.size (.cells (wc (bothW a b)) 25))
    unfold wc at HJ2
    clear a0 a1 a2 a3 a4 a5 b0 b1 b2 b3 b4 b5
    obtain ⟨a0, a1, a2, a3, a4, a5, _⟩ := cells6 HJ2.xa
    obtain ⟨b0, b1, b2, b3, b4, b5, _⟩ := cells6 HJ2.xb
    go_wp2_with fail
    refine (unhide RS _).mono ?_
    unfold szV
    rintro y w3 ⟨rfl, q3⟩
    dsimp only
    have HJ3 := HJ2.on q3
    obtain ⟨c0, c1, c2, c3, f⟩ := HJ3.xr.cells
    have f0 := f 0
    have f1 := f 1
    have f2 := f 2
    have f3 := f 3
    have v := HJ3.xr.all (.int .i64 (seamL a.t b.h).b) (.int .i64 (seamL a.t b.h).r) (.int .i64 (seamL a.t b.h).u) (.int .i64 (seamL a.t b.h).e)
    have DD := below4 HJ3.below HJ3.lo.2.2 (.int .i64 (seamL a.t b.h).b) (.int .i64 (seamL a.t b.h).r) (.int .i64 (seamL a.t b.h).u) (.int .i64 (seamL a.t b.h).e)
    obtain ⟨v0, v1, v2, v3, _⟩ := v.cells
    have V := hide (And.intro v0 (And.intro v1 (And.intro v2 v3)))
    clear f v v0 v1 v2 v3 a0 a1 a2 a3 a4 a5 b0 b1 b2 b3 b4 b5
    go_wp2_with fail
    obtain ⟨v0, v1, v2, v3⟩ := unhide V
    refine bodyPost_ret (v := .tuple #[szV (seamL a.t b.h), .int .i64 0]) (by simp [results, Tryd.results11, go_sem, v0, v1, v2, v3, szV]) rfl ⟨by rw [unhide HJJ], DD⟩
end Go.Proofs.YtchlnphapnafcaaDoor
end
