/- A region that draws its order: what is listed already need not wait. -/
import Derived.Test.YtdemagijhmbdcaaDo10

namespace Go.Proofs.Ytdemagijhmbdcaa
open Region
section
variable {P : Program} {md : Region.Mode} {ops : Array Oper} {Q : Exit → Act → World → Prop} {S : World → Prop} {late : Nat → Bool}
def Wait2 (md : Region.Mode) (ops : Array Oper) (late : Nat → Bool) (listed : Array Bool) (i : Nat) : Prop := ∀ (j : Nat) (oj : Oper), ops[j]? = some oj → late j = true → listed.getD j false = true ∨ reach md ops ops.size j i = true
def wait2B (md : Region.Mode) (ops : Array Oper) (late : Nat → Bool) (listed : Array Bool) (i : Nat) : Bool := (List.range ops.size).all fun j => !late j || (listed.getD j false || reach md ops ops.size j i)
theorem wait2_spec {listed : Array Bool} {i : Nat} (h : wait2B md ops late listed i = true) : Wait2 md ops late listed i := fun j oj hj hl => by
  have := List.all_eq_true.1 h j (List.mem_range.2 (Array.getElem?_eq_some_iff.1 hj).1)
  rw [hl, Bool.not_true, Bool.false_or, Bool.or_eq_true] at this
  exact this
theorem getD_more {listed : Array Bool} {j k : Nat} (h : listed.getD k false = true) : (listed.setIfInBounds j true).getD k false = true := by
  by_cases hjk : j = k
  · subst hjk
    have hl : j < listed.size := by
      rcases Nat.lt_or_ge j listed.size with h' | h'
      · exact h'
      · simp [Array.getElem?_eq_none h'] at h
    simp [hl]
  · simpa [hjk] using h
theorem anyL_first2 {i : Nat} {oi : Oper} {v : Value} (hi : ops[i]? = some oi) (hsel : ∀ (j : Nat) (o : Oper) cs b, ops[j]? = some o → o.op ≠ .select cs b)
    (hQ : ∀ c a w, Q (.panic c) (a.put oi.dst v) w → Q (.panic c) a w) :
    ∀ (fuel : Nat) (listed : Array Bool) (a : Act) (w : World), Wait2 md ops late listed i → Closed md ops listed →
      (∀ j oj, ops[j]? = some oj → j ≠ i → listed.getD j true = false → (∀ e ∈ oj.after, Region.binds md e = true → e.on ≠ i) → oi.apart ops oj = true) →
      i ∈ Region.ready md ops listed → YieldsIf P ops S oi v a → S w →
      anyL P md ops Q S late fuel (listed.setIfInBounds i true) (a.put oi.dst v) w → anyL P md ops Q S late (fuel + 1) listed a w
  | fuel, listed, a, w, hw, hc, hfree, hr, hy, hS, H => by
    refine ⟨fun h => (by rw [h] at hr; cases hr), fun j hj => ?_⟩
    by_cases hji : j = i
    · subst hji; exact hy.wpOp hi hS ⟨fun _ => hS, H⟩
    · obtain ⟨hjun, oj, hoj, hall⟩ := mem_ready.1 hj
      have hni : listed.getD i false = true → False := fun h1 => by
        have h0 := (mem_ready.1 hr).1
        rcases Nat.lt_or_ge i listed.size with h' | h'
        · simp [h'] at h0 h1; rw [h0] at h1; cases h1
        · simp [Array.getElem?_eq_none h'] at h1
      have hnj : listed.getD j false = true → False := fun h1 => by
        rcases Nat.lt_or_ge j listed.size with h' | h'
        · simp [h'] at hjun h1; rw [hjun] at h1; cases h1
        · simp [Array.getElem?_eq_none h'] at h1
      have hnot : ∀ e ∈ oj.after, Region.binds md e = true → e.on ≠ i := fun e he hb heq => hni (by rw [← heq]; exact hall e he hb)
      have hlate : late j = false := by
        cases hl : late j with
        | false => rfl
        | true =>
          rcases hw j oj hoj hl with h1 | h1
          · exact (hnj h1).elim
          · exact (hni (reach_listed hc _ j oj hoj hall h1)).elim
      match fuel, H with
      | 0, H =>
        have := ready_mono hj hji
        rw [H.1] at this
        cases this
      | fuel + 1, H =>
        have h2 := wpOp_putIf hoj (hfree j oj hoj hji hjun hnot) (fun cs b => hsel i oi cs b hi) (fun cs b => hsel j oj cs b hoj) hQ hy (H.2 j (ready_mono hj hji))
        refine wpOp_mono (fun a' w' h3 => ⟨h3.2.1, anyL_first2 hi hsel hQ fuel (listed.setIfInBounds j true) a' w' (fun k ok hk hl => (hw k ok hk hl).imp getD_more id) (closed_set hc hj) ?_ (ready_mono hr (Ne.symm hji)) h3.1 (h3.2.1 hlate) ?_⟩) h2
        · intro k ok hk hki hun hno
          refine hfree k ok hk hki ?_ hno
          by_cases hjk : j = k
          · subst hjk; exact hjun
          · rw [getD_set_ne true hjk] at hun; exact hun
        · rw [Array.setIfInBounds_comm _ _ hji]
          exact h3.2.2
theorem anyL_take2 {i : Nat} {oi : Oper} {v : Value} {fuel : Nat} {listed : Array Bool} {a : Act} {w : World} (hi : ops[i]? = some oi) (hs : Region.noSelect ops = true) (hf : Region.free md ops listed i = true)
    (hr : (Region.ready md ops listed).contains i = true) (hw : (wait2B md ops late listed i && closedB md ops listed) = true) (hQ : ∀ c a w, Q (.panic c) (a.put oi.dst v) w → Q (.panic c) a w) (hy : YieldsIf P ops S oi v a) (hS : S w)
    (h : anyL P md ops Q S late fuel (listed.setIfInBounds i true) (a.put oi.dst v) w) : anyL P md ops Q S late (fuel + 1) listed a w := by
  rw [Bool.and_eq_true] at hw
  exact anyL_first2 hi (Region.noSelect_spec hs) hQ fuel listed a w (wait2_spec hw.1) (closed_of hw.2) (Region.free_spec hi hf) (by simpa using hr) hy hS h
end
end Go.Proofs.Ytdemagijhmbdcaa
