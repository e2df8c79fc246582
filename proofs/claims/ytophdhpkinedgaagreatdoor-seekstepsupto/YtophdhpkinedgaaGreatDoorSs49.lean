/- Layer 10's laws, plain: what SeekSteps asks of the steps. -/
import Derived.Test.YtophdhpkinedgaaGreatDoorSs48

namespace Go.Proofs.YtophdhpkinedgaaGreatDoor
open Go.ChangeShapes Go.WideShapes Go.ChangeAt Go.RowKit

theorem utf8_encS (r : Int) : Utf8.encode r = strOfNums (enc r) := by
  have hv : Utf8.valid r = isRune r := by
    unfold Utf8.valid isRune; rw [Bool.eq_iff_iff]; simp; omega
  unfold Utf8.encode
  rw [hv]
  by_cases hr : 0 ≤ r ∧ r < 55296 ∨ 57343 < r ∧ r ≤ 1114111
  · rw [isRune_true hr]
    obtain ⟨n, rfl⟩ := Int.eq_ofNat_of_zero_le (show 0 ≤ r by omega)
    simp only [if_true, Int.toNat_natCast]
    by_cases a1 : n < 128
    · rw [if_pos a1, enc_1 (by omega) (by omega)]; simp [strOfNums]
    · rw [if_neg a1]
      by_cases a2 : n < 2048
      · rw [if_pos a2, enc_2 (by omega) (by omega)]
        simp only [strOfNums, List.map_cons, List.map_nil]
        rw [show (192 + (n : Int) / 64).toNat = 192 + n / 64 by omega, show (128 + (n : Int) % 64).toNat = 128 + n % 64 by omega]
      · rw [if_neg a2]
        by_cases a3 : n < 65536
        · rw [if_pos a3, enc_3 (by omega) (by omega) (by omega)]
          simp only [strOfNums, List.map_cons, List.map_nil]
          rw [show (224 + (n : Int) / 4096).toNat = 224 + n / 4096 by omega, show (128 + (n : Int) / 64 % 64).toNat = 128 + n / 64 % 64 by omega, show (128 + (n : Int) % 64).toNat = 128 + n % 64 by omega]
        · rw [if_neg a3, enc_4 (by omega) (by omega)]
          simp only [strOfNums, List.map_cons, List.map_nil]
          rw [show (240 + (n : Int) / 262144).toNat = 240 + n / 262144 by omega, show (128 + (n : Int) / 4096 % 64).toNat = 128 + n / 4096 % 64 by omega, show (128 + (n : Int) / 64 % 64).toNat = 128 + n / 64 % 64 by omega, show (128 + (n : Int) % 64).toNat = 128 + n % 64 by omega]
  · rw [isRune_false hr, enc_bad hr]
    simp only [Bool.false_eq_true, if_false]
    decide
theorem enc_stepS {l : List Int} (hl : ∀ x ∈ l, 0 ≤ x ∧ x ≤ 255) {p : Nat} (hp : p < l.length) : (whl (l.drop p) = true ∧ enc (first (l.drop p)).1 = (l.drop p).take (wid (l.drop p)) ∧ ¬ ((first (l.drop p)).1 = 65533 ∧ wid (l.drop p) = 1)) ∨ (whl (l.drop p) = false ∧ wid (l.drop p) = 1 ∧ (first (l.drop p)).1 = 65533) := by
  have hwl := wid_len hp
  cases hd : l.drop p with
  | nil => have := congrArg List.length hd; simp at this; omega
  | cons a r =>
    have hb : ∀ x ∈ a :: r, 0 ≤ x ∧ x ≤ 255 := fun x hx => hl x (List.mem_of_mem_drop (hd ▸ hx))
    by_cases h : lng (a :: r) = 0
    · right
      have hw : wid (a :: r) = 1 := by rw [wid_lng, if_pos h]
      exact ⟨by simp [whl, h], hw, first_bad h⟩
    · left
      have he : enc (first (a :: r)).1 = (a :: r).take (wid (a :: r)) := by
        obtain ⟨h1, h2, _⟩ := need_of_lng h
        rw [h2]
        have hw : whole ((a :: r).take (need a).toNat) = true := by
          simp only [lng] at h
          split at h
          · assumption
          · exact absurd rfl h
        have hf : (first (a :: r)).1 = value ((a :: r).take (need a).toNat) := by simp only [first, if_pos hw]
        rw [hf, enc_value hw (fun x hx => hb x (List.mem_of_mem_take hx)), h1, Int.toNat_natCast]
      refine ⟨by simp [whl, h], he, fun hh => ?_⟩
      rw [hh.1, hh.2, enc_3 (by decide) (by decide) (by decide)] at he
      have := congrArg List.length he
      simp at this
theorem flr_lastS {l : List Int} {p q : Nat} (h1 : flr l p ≤ q) (h2 : q ≤ p) (h : inside l q = false) : q = flr l p := by
  cases hi : inside l p with
  | false => rw [flr_eq hi] at h1 ⊢; omega
  | true =>
    obtain ⟨a, b⟩ := flr_over hi
    rcases Nat.eq_or_lt_of_le h1 with e | e
    · exact e.symm
    · have := (inside_iff l q).2 ⟨flr l p, e, by omega⟩
      rw [h] at this; cases this
/-- the edge below a byte place -/
theorem to_down {T : List Int} (hl : ∀ x ∈ T, 0 ≤ x ∧ x ≤ 255) {p : Nat} (hp : p ≤ T.length) {t : Int} (ht : isRu t = true) : toR 1 (p : Int) t 1 (EE T) = 0 ∧ toP 1 (p : Int) t 1 (EE T) = szE t (T.take (flr T p)) := by
  have hinc := inc_EE hl 1
  have e1 : ∀ d : Ed, byE 1 d = d.1 := fun d => rfl
  have hpl : isPl 1 (p : Int) (EE T) = true := (isPl_iff hinc).2 ⟨by omega, by rw [by_last rfl, sz_bytes hl]; omega⟩
  have hR : fdR 1 (p : Int) 1 (EE T) = 0 := by unfold fdR; rw [hpl]; simp
  obtain ⟨d1, d2, d3⟩ := dn_lt hinc hpl
  have hsel : selI 1 (p : Int) 1 (EE T) = dnI 1 (p : Int) (EE T) := by unfold selI; rw [if_neg (by omega)]
  have hE : fdE 1 (p : Int) 1 (EE T) = (EE T).getD (dnI 1 (p : Int) (EE T)) e0 := by unfold fdE; rw [if_pos hR, hsel]
  have hin := EE_inside hl d1
  have hx : ixE 1 (p : Int) (EE T) < (EE T).length := (of_decide_eq_true (show decide (0 ≤ (p : Int) ∧ ixE 1 (p : Int) (EE T) < (EE T).length) = true from hpl)).2
  have hle : ((EE T).getD (dnI 1 (p : Int) (EE T)) e0).1 ≤ p := by
    have := d2
    unfold dnE at this
    rw [e1] at this
    omega
  have hge : flr T p ≤ ((EE T).getD (dnI 1 (p : Int) (EE T)) e0).1 := by
    have hf := flr_le T p
    obtain ⟨a, a1, a2⟩ := edge_ix hl (p := flr T p) (by omega) (flr_edge T p)
    rw [← a2]
    apply Classical.byContradiction
    intro hh
    have hda : dnI 1 (p : Int) (EE T) < a := by
      apply Classical.byContradiction
      intro h2
      have := hinc.le (i := a) (j := dnI 1 (p : Int) (EE T)) (by omega) d1
      rw [e1, e1] at this
      omega
    have hup : (p : Int) ≤ (byE 1 ((EE T).getD (ixE 1 (p : Int) (EE T)) e0) : Int) := ix_ge hx
    rw [e1] at hup
    rcases d3 with d | ⟨d, _⟩
    · have := hinc.2.2 (dnI 1 (p : Int) (EE T)) a hda a1
      rw [e1, e1] at this
      rw [← d] at hup
      omega
    · have := hinc.le (i := ixE 1 (p : Int) (EE T)) (j := a) (by omega) a1
      rw [e1, e1, a2] at this
      have hpe : flr T p = p := by omega
      by_cases hlt : ixE 1 (p : Int) (EE T) < a
      · have := hinc.2.2 (ixE 1 (p : Int) (EE T)) a hlt a1
        rw [e1, e1, a2] at this
        omega
      · have hxa : ixE 1 (p : Int) (EE T) = a := by omega
        have hupe : (byE 1 (upE 1 (p : Int) (EE T)) : Int) = (p : Int) := by unfold upE; rw [hxa, e1, a2, hpe]
        have hdn : dnI 1 (p : Int) (EE T) = ixE 1 (p : Int) (EE T) := by unfold dnI; rw [if_pos hupe]
        omega
  have hfe := flr_lastS hge hle hin
  have hc : (isRu 1 && (isRu t && isRu 1)) = true := by rw [ht]; rfl
  unfold toR toP
  rw [if_pos hc, if_pos hc]
  refine ⟨hR, ?_⟩
  rw [hE, ← hfe, sz_take hl ht d1]
theorem flr_in_step {T : List Int} {p : Nat} (hp : p < T.length) : p - flr T p < wid (T.drop (flr T p)) := by
  have hf := flr_le T p
  cases hi : inside T p with
  | true => have := flr_wid hi; omega
  | false =>
    rw [flr_eq hi]
    cases hd : T.drop p with
    | nil => have := congrArg List.length hd; rw [List.length_drop] at this; simp at this; omega
    | cons a r => rw [wid_lng]; split <;> omega

end Go.Proofs.YtophdhpkinedgaaGreatDoor
