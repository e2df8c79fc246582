/- Layer 8: Cut's borders (plain), Cut's errors. -/
import Derived.Test.YtdklfodccdmmlaaDoorLeaM
namespace Go.Proofs.YtdklfodccdmmlaaDoor
open Go.ChangeShapes Go.WideShapes Go.ChangeAt Go.RowKit
attribute [local go_sem] Oper.semAt_some

theorem lng_takeB (L : List Int) (n : Nat) : lng (L.take n) ≤ lng L := by
  match L, n with
  | [], n => simp [lng]
  | a :: r, 0 => simp [lng]
  | a :: r, k + 1 =>
    have e : (a :: r).take (k + 1) = a :: r.take k := rfl
    have ht : (a :: r.take k).take (need a).toNat = (a :: r).take (min (need a).toNat (k + 1)) := by rw [← e, List.take_take]
    rw [e]
    by_cases hle : (need a).toNat ≤ k + 1
    · rw [show min (need a).toNat (k + 1) = (need a).toNat by omega] at ht
      simp only [lng]
      rw [ht]
      exact Nat.le_refl _
    · rw [show min (need a).toNat (k + 1) = k + 1 by omega, e] at ht
      have hw : whole (a :: r.take k) = false := whole_len (a := a) (r := r.take k) (by have := need_lo a; simp; omega)
      have h0 : lng (a :: r.take k) = 0 := by simp only [lng]; rw [ht, hw]; rfl
      rw [h0]
      exact Nat.zero_le _
theorem inside_takeB {l : List Int} {p : Nat} (h : inside l p = false) (e : Nat) : inside (l.take e) p = false := by
  rw [inside_not] at h ⊢
  intro q hq
  have h1 := h q hq
  have h2 := lng_takeB (l.drop q) (e - q)
  rw [List.drop_take]
  omega
/-- where sizes add -/
theorem sz_piece {l : List Int} (hl : ∀ x ∈ l, 0 ≤ x ∧ x ≤ 255) {b e : Nat} (hbe : b ≤ e) (he : e ≤ l.length) (hb : inside l b = false) :
    (rnN (l.take e) : Int) = (rnN (l.take b) : Int) + (szL ((l.take e).drop b)).r ∧ unN (l.take e) = unN (l.take b) + (szL ((l.take e).drop b)).u := by
  have hs : l.take b ++ (l.take e).drop b = l.take e := by
    have : l.take b = (l.take e).take b := by rw [List.take_take, show min b e = b by omega]
    rw [this, List.take_append_drop]
  have hlb : (l.take b).length = b := by simp; omega
  have hin : inside (l.take b ++ (l.take e).drop b) (l.take b).length = false := by rw [hs, hlb]; exact inside_takeB hb e
  obtain ⟨c1, c2⟩ := counts_no hin
  have i1 : ∀ x ∈ l.take e, 0 ≤ x ∧ x ≤ 255 := fun x hx => hl x (List.mem_of_mem_take hx)
  have i2 : ∀ x ∈ l.take b, 0 ≤ x ∧ x ≤ 255 := fun x hx => hl x (List.mem_of_mem_take hx)
  have i3 : ∀ x ∈ (l.take e).drop b, 0 ≤ x ∧ x ≤ 255 := fun x hx => i1 x (List.mem_of_mem_drop hx)
  rw [hs] at c1 c2
  have r1 := rn_count i1
  have r2 := rn_count i2
  have r3 := rn_count i3
  have u1 := un_count i1
  have u2 := un_count i2
  have u3 := un_count i3
  refine ⟨?_, ?_⟩
  · show (rnN (l.take e) : Int) = (rnN (l.take b) : Int) + (rnN ((l.take e).drop b) : Int)
    omega
  · show unN (l.take e) = unN (l.take b) + unN ((l.take e).drop b)
    omega
theorem bdr_edge {l : List Int} {b m : Nat} (hm : 4 ≤ m) : inside l (bdr l b m) = false := by
  unfold bdr
  split
  · exact edge_len l
  · rw [if_neg (by omega)]; exact flr_edge l _
theorem bdr_size {l : List Int} {b m : Nat} (hm : 4 ≤ m) (hb : b ≤ l.length) : bdr l b m ≤ b + m ∧ (bdr l b m < l.length → b + m ≤ bdr l b m + 3) := by
  unfold bdr
  split
  · omega
  · rw [if_neg (by omega)]
    have h1 := flr_ge3 l (b + m)
    have h2 := flr_le l (b + m)
    omega
/-- Cut's leaves behind k of them -/
structure CbI (l : List Int) (m k b : Nat) : Prop where
  p : ∃ (pre : List (List Int)) (f : Nat), pcs l m = pre ++ pcA l m f b ∧ pre.length = k ∧ l.length - b ≤ f
  le : b ≤ l.length
  e : inside l b = false
theorem CbI.zero (l : List Int) (m : Nat) : CbI l m 0 0 := ⟨⟨[], l.length, rfl, rfl, by omega⟩, Nat.zero_le _, edge_zero l⟩
theorem CbI.next {l : List Int} {m k b : Nat} (hm : 4 ≤ m) (h : CbI l m k b) (hk : k < (pcs l m).length) : b < l.length ∧ (pcs l m).getD k [] = (l.take (bdr l b m)).drop b ∧ CbI l m (k + 1) (bdr l b m) ∧ (k + 1 < (pcs l m).length → bdr l b m < l.length) := by
  obtain ⟨pre, f, h1, h2, h3⟩ := h.p
  have hlt : b < l.length := by
    rcases Nat.lt_or_ge b l.length with h4 | h4
    · exact h4
    · rw [h1, pcA_end (by omega)] at hk; simp at hk; omega
  obtain ⟨g, rfl⟩ : ∃ g, f = g + 1 := ⟨f - 1, by omega⟩
  have h5 : pcA l m (g + 1) b = (l.take (bdr l b m)).drop b :: pcA l m g (bdr l b m) := by show (if b < l.length then _ else _) = _; rw [if_pos hlt]
  obtain ⟨e1, e2⟩ := bdr_in hlt (show 1 ≤ m by omega)
  rw [h5] at h1
  refine ⟨hlt, ?_, ⟨⟨pre ++ [(l.take (bdr l b m)).drop b], g, by rw [h1]; simp, by simp [h2], by omega⟩, e2, bdr_edge hm⟩, fun h6 => ?_⟩
  · rw [h1, ← h2]; simp
  · rcases Nat.lt_or_ge (bdr l b m) l.length with h4 | h4
    · exact h4
    · rw [h1, pcA_end (by omega)] at h6; simp at h6; omega
theorem CbI.end {l : List Int} {m b : Nat} (h : CbI l m (pcs l m).length b) : b = l.length := by
  obtain ⟨pre, f, h1, h2, h3⟩ := h.p
  rcases Nat.lt_or_ge b l.length with h4 | h4
  · obtain ⟨g, rfl⟩ : ∃ g, f = g + 1 := ⟨f - 1, by omega⟩
    have h5 : pcA l m (g + 1) b = (l.take (bdr l b m)).drop b :: pcA l m g (bdr l b m) := by show (if b < l.length then _ else _) = _; rw [if_pos h4]
    rw [h5] at h1
    have := congrArg List.length h1
    simp at this
    omega
  · have := h.le; omega
theorem pcs_len {l : List Int} {m : Nat} (hm : 1 ≤ m) : (pcs l m).length ≤ l.length := by
  have key : ∀ f b, b ≤ l.length → (pcA l m f b).length + b ≤ l.length := by
    intro f
    induction f with
    | zero => intro b hb; simpa [pcA] using hb
    | succ f ih =>
      intro b hb
      rcases Nat.lt_or_ge b l.length with h4 | h4
      · have h5 : pcA l m (f + 1) b = (l.take (bdr l b m)).drop b :: pcA l m f (bdr l b m) := by show (if b < l.length then _ else _) = _; rw [if_pos h4]
        obtain ⟨e1, e2⟩ := bdr_in h4 hm
        have := ih (bdr l b m) e2
        rw [h5, List.length_cons]
        omega
      · rw [pcA_end (by omega)]; simp; omega
  have := key l.length 0 (Nat.zero_le _)
  simpa [pcs] using this
set_option maxRecDepth 100000 in
theorem CutE_at (a0 : Option Addr) (len cap : Nat) (m : Int) (w : World) (h : m < 1 ∨ 4096 < m) :
    Calls Tryd.prog 6 #[.slice a0 len cap, .int .i64 m] w fun y w' => y = .returned (.tuple #[.slice none 0 0, .int .i64 80]) ∧ w' = w := by
  go_enter Tryd.func6, Tryd.ntmps6
  by_cases h1 : m < 1
  · have t1 : decide (m < 1) = true := decide_eq_true h1
    clear h h1
    go_wp2_with fail
    refine bodyPost_ret (results_tmp2 rfl _ _ _) rfl ⟨rfl, rfl⟩
  · have t1 : decide (m < 1) = false := decide_eq_false h1
    have t2 : decide (m > 4096) = true := decide_eq_true (by omega)
    have t3 : decide (4096 < m) = true := decide_eq_true (by omega)
    clear h h1
    go_wp2_with fail
    refine bodyPost_ret (results_tmp2 rfl _ _ _) rfl ⟨rfl, rfl⟩
set_option maxRecDepth 100000 in
theorem CutLong_at (a0 : Option Addr) (len cap m : Nat) (w : World) (h1 : 1 ≤ m) (h2 : m ≤ 4096) (hl : 268435456 < len) :
    Calls Tryd.prog 6 #[.slice a0 len cap, .int .i64 (m : Int)] w fun y w' => y = .returned (.tuple #[.slice none 0 0, .int .i64 5]) ∧ w' = w := by
  have t1 : decide ((m : Int) < 1) = false := decide_eq_false (by omega)
  have t2 : decide ((m : Int) > 4096) = false := decide_eq_false (by omega)
  have t3 : decide ((4096 : Int) < (m : Int)) = false := decide_eq_false (by omega)
  have t3' : decide (4096 < m) = false := decide_eq_false (by omega)
  have t1' : decide (m < 1) = false := decide_eq_false (by omega)
  have t4 : decide ((len : Int) > 268435456) = true := decide_eq_true (by omega)
  have t5 : decide ((268435456 : Int) < (len : Int)) = true := decide_eq_true (by omega)
  have t5' : decide (268435456 < len) = true := decide_eq_true (by omega)
  clear h1 h2 hl
  go_enter Tryd.func6, Tryd.ntmps6
  go_wp2_with fail
  refine bodyPost_ret (results_tmp2 rfl _ _ _) rfl ⟨rfl, rfl⟩

end Go.Proofs.YtdklfodccdmmlaaDoor
