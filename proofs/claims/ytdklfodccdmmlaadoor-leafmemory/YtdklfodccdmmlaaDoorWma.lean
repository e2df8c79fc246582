/- Layer 5, plain: sizes counted place by place. -/
import Derived.Test.YtdklfodccdmmlaaDoorWjo
namespace Go.Proofs.YtdklfodccdmmlaaDoor

def cI (P : Nat → Bool) : Nat → Nat
  | 0 => 0
  | p + 1 => cI P p + (if P p then 1 else 0)
theorem cI_add (P : Nat → Bool) (m : Nat) : ∀ n, cI P (m + n) = cI P m + cI (fun i => P (m + i)) n
  | 0 => rfl
  | n + 1 => by
    show cI P (m + n) + (if P (m + n) then 1 else 0) = cI P m + (cI (fun i => P (m + i)) n + (if P (m + n) then 1 else 0))
    rw [cI_add P m n, Nat.add_assoc]
theorem cI_congr {P P' : Nat → Bool} : ∀ {n : Nat}, (∀ q, q < n → P q = P' q) → cI P n = cI P' n
  | 0, _ => rfl
  | n + 1, h => by
    show cI P n + _ = cI P' n + _
    rw [cI_congr (n := n) (fun q hq => h q (by omega)), h n (by omega)]
/-- places struck out -/
theorem cI_cut {P P' : Nat → Bool} {lo hi : Nat} (hlh : lo ≤ hi) : ∀ n, (∀ q, q < n → P q = (P' q && !(decide (lo ≤ q ∧ q < hi)))) → (∀ q, q < n → lo ≤ q → q < hi → P' q = true) → cI P n + (min hi n - min lo n) = cI P' n
  | 0, _, _ => by simp [cI]
  | n + 1, h, h' => by
    have ih := cI_cut hlh n (fun q hq => h q (by omega)) (fun q hq => h' q (by omega))
    show cI P n + (if P n then 1 else 0) + _ = cI P' n + (if P' n then 1 else 0)
    rw [h n (by omega)]
    by_cases hin : lo ≤ n ∧ n < hi
    · rw [h' n (by omega) hin.1 hin.2, decide_eq_true hin]
      simp
      omega
    · rw [decide_eq_false hin]
      simp
      omega
/-- one place more -/
theorem cI_one {P P' : Nat → Bool} {k : Nat} : ∀ n, (∀ q, q < n → P q = (P' q || decide (q = k))) → (k < n → P' k = false) → cI P n = cI P' n + (if k < n then 1 else 0)
  | 0, _, _ => by simp [cI]
  | n + 1, h, h' => by
    have ih := cI_one n (fun q hq => h q (by omega)) (fun hk => h' (by omega))
    show cI P n + (if P n then 1 else 0) = cI P' n + (if P' n then 1 else 0) + _
    rw [h n (by omega), ih]
    by_cases hk : n = k
    · subst hk
      rw [h' (by omega)]
      simp
    · rw [decide_eq_false hk, Bool.or_false]
      by_cases hlt : k < n
      · rw [if_pos hlt, if_pos (show k < n + 1 by omega)]; omega
      · rw [if_neg hlt, if_neg (show ¬ k < n + 1 by omega)]; omega

def eP (l : List Int) (q : Nat) : Bool := !inside l q
def qP (l : List Int) (q : Nat) : Bool := decide (lng (l.drop q) = 4)
theorem inside_btw {l : List Int} {p k : Nat} (h1 : 1 ≤ k) (h2 : k < wid (l.drop p)) : inside l (p + k) = true ∧ lng (l.drop (p + k)) = 0 := by
  have hw : k < lng (l.drop p) := by rwa [wid_gt h1] at h2
  exact ⟨(inside_iff l (p + k)).2 ⟨p, by omega, by omega⟩, lng_cross (p := p) (by omega) (by omega)⟩
theorem cI_step {l : List Int} {p : Nat} (he : inside l p = false) (hp : p < l.length) : ∀ k, 1 ≤ k → k ≤ wid (l.drop p) → cI (eP l) (p + k) = cI (eP l) p + 1 ∧ cI (qP l) (p + k) = cI (qP l) p + (if lng (l.drop p) = 4 then 1 else 0)
  | 0, h, _ => by omega
  | 1, _, _ => by
    refine ⟨?_, ?_⟩
    · show cI (eP l) p + (if eP l p then 1 else 0) = _
      rw [eP, he]; rfl
    · show cI (qP l) p + (if qP l p then 1 else 0) = _
      unfold qP
      by_cases h : lng (l.drop p) = 4 <;> simp [h]
  | k + 2, _, h2 => by
    obtain ⟨i1, i2⟩ := cI_step he hp (k + 1) (by omega) (by omega)
    obtain ⟨j1, j2⟩ := inside_btw (l := l) (p := p) (k := k + 1) (by omega) (by omega)
    refine ⟨?_, ?_⟩
    · show cI (eP l) (p + (k + 1)) + (if eP l (p + (k + 1)) then 1 else 0) = _
      rw [i1, eP, j1]; rfl
    · show cI (qP l) (p + (k + 1)) + (if qP l (p + (k + 1)) then 1 else 0) = _
      rw [i2, qP, j2]; simp
theorem uni_wid {x : List Int} (hx : ∀ y ∈ x, 0 ≤ y ∧ y ≤ 255) : uni1 (first x).1 = if lng x = 4 then 2 else 1 := by
  cases x with
  | nil => rfl
  | cons a r =>
    have ha := hx a (List.mem_cons_self ..)
    have hw := wid_lng a r
    have key : uni1 (first (a :: r)).1 = if wid (a :: r) = 4 then 2 else 1 := by
      unfold wid
      by_cases hs : (r.length : Int) + 1 < need a
      · rw [first_short hs]; decide
      · have hn : need a = 0 ∨ need a = 1 ∨ need a = 2 ∨ need a = 3 ∨ need a = 4 := by unfold need; repeat (first | (split <;> try omega) | omega)
        rcases hn with hn | hn | hn | hn | hn
        · rw [first_0 hn]; decide
        · have h128 : a < 128 := by unfold need at hn; revert hn; repeat (first | (split <;> try omega) | omega)
          rw [first_1 h128]
          unfold uni1
          rw [if_neg (by show ¬ 65535 < a; omega)]; rfl
        · match r, hx, hs with
          | b :: t, hx, hs =>
            rw [first_2 hn]
            split
            · unfold uni1
              rw [if_neg (by show ¬ (65535 < a % 32 * 64 + b % 64); omega)]; rfl
            · decide
          | [], _, hs => rw [hn] at hs; simp at hs
        · match r, hx, hs with
          | b :: c :: t, hx, hs =>
            rw [first_3 hn]
            split
            · unfold uni1
              rw [if_neg (by show ¬ (65535 < (a % 16 * 64 + b % 64) * 64 + c % 64); omega)]; rfl
            · decide
          | [b], _, hs => rw [hn] at hs; simp at hs
          | [], _, hs => rw [hn] at hs; simp at hs
        · match r, hx, hs with
          | b :: c :: d :: t, hx, hs =>
            rw [first_4 hn]
            split
            · rename_i hc
              have hsec : sec a b = true := by
                rw [Bool.and_eq_true] at hc
                exact hc.1
              have h240 : 240 ≤ a ∧ a < 245 := by unfold need at hn; revert hn; repeat (first | (split <;> try omega) | omega)
              simp only [sec, decide_eq_true_eq] at hsec
              unfold uni1
              rw [if_pos (by show 65535 < ((a % 8 * 64 + b % 64) * 64 + c % 64) * 64 + d % 64; omega)]; rfl
            · decide
          | [b, c], _, hs => rw [hn] at hs; simp at hs
          | [b], _, hs => rw [hn] at hs; simp at hs
          | [], _, hs => rw [hn] at hs; simp at hs
    rw [key, hw]
    have := lng_le (a :: r)
    by_cases h0 : lng (a :: r) = 0
    · rw [if_pos h0, h0]; rfl
    · rw [if_neg h0]
theorem sizes_split {l : List Int} (hl : ∀ x ∈ l, 0 ≤ x ∧ x ≤ 255) : ∀ (n p : Nat), l.length - p ≤ n → p ≤ l.length → inside l p = false →
    (spots l p).length + cI (eP l) p = cI (eP l) l.length ∧ usum l (spots l p) + (cI (eP l) p : Int) + (cI (qP l) p : Int) = (cI (eP l) l.length : Int) + (cI (qP l) l.length : Int)
  | 0, p, h, hle, he => by
    obtain rfl : p = l.length := by omega
    rw [spots_end (by omega)]
    simp [usum]
  | n + 1, p, h, hle, he => by
    by_cases hp : p < l.length
    · have hw := wid_pos hp
      obtain ⟨c1, c2⟩ := cI_step he hp _ hw (Nat.le_refl _)
      obtain ⟨i1, i2⟩ := sizes_split hl n (p + wid (l.drop p)) (by omega) (wid_len hp) (edge_next he hp)
      have hu := uni_wid (x := l.drop p) (fun y hy => hl y (List.mem_of_mem_drop hy))
      rw [spots_cons hp, usum_cons, hu, List.length_cons]
      rw [c1] at i1
      rw [c1, c2] at i2
      refine ⟨by omega, ?_⟩
      by_cases h4 : lng (l.drop p) = 4
      · simp only [h4, if_true] at i2 ⊢; omega
      · simp only [h4, if_false] at i2 ⊢; omega
    · obtain rfl : p = l.length := by omega
      rw [spots_end (by omega)]
      simp [usum]
theorem rn_count {l : List Int} (hl : ∀ x ∈ l, 0 ≤ x ∧ x ≤ 255) : rnN l = cI (eP l) l.length := by
  have := (sizes_split hl l.length 0 (by omega) (Nat.zero_le _) (edge_zero l)).1
  simpa [rnN, cI] using this
theorem un_count {l : List Int} (hl : ∀ x ∈ l, 0 ≤ x ∧ x ≤ 255) : unN l = (cI (eP l) l.length : Int) + (cI (qP l) l.length : Int) := by
  have := (sizes_split hl l.length 0 (by omega) (Nat.zero_le _) (edge_zero l)).2
  simpa [unN, cI] using this
end Go.Proofs.YtdklfodccdmmlaaDoor
