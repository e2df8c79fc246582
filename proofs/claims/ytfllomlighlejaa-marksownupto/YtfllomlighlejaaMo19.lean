/- Layer 15: copies of maps, Drop. · A region that draws its order: what is listed already need not wait. -/
import Derived.Test.YtfllomlighlejaaMo09
import Derived.Shelf.SlMaps.Clone
import Derived.Test.YtfllomlighlejaaMo13

section
namespace Go.Proofs.Ytfllomlighlejaa
open Go.ChangeShapes Go.WideShapes Go.ChangeAt Go.RowKit
attribute [local go_sem] Oper.semAt_some

set_option maxRecDepth 100000 in
set_option maxHeartbeats 1000000 in
/-- a mark that isn't there -/
theorem MDropE_at (g : Nat) (n : Int) (L : List Mk) (s : ByteArray) (X : World) (h : IsMs X g n L) (hg : getM s L = none) :
    Calls Try.prog 17 #[.pointer (some ⟨g, 0, none⟩), .string s] X fun y X' => y = .returned (.tuple #[.pointer none, .int .i64 150]) ∧ Below X.heap.size X X' := by
  obtain ⟨r, h1, h2⟩ := h.c
  have c1 := h1.cell 1
  simp only [List.getElem?_toArray, List.getElem?_cons_zero, List.getElem?_cons_succ] at c1
  have R := run_lookup_mk (P := Try.prog) X Try.underlying67 Try.underlying9 (zero_mk _) h2 s
  rw [hg] at R
  simp only [Option.map_none, Option.getD_none, Option.isSome_none] at R
  have HB := hide ((Below.refl X.heap.size X).alloc (Nat.le_refl _) (.cells #[.string ⟨#[]⟩, .int .i64 0, .int .i64 0] 42))
  clear h h1 h2 hg
  go_enter Try.func17, Try.ntmps17
  go_wp2_with fail
  refine bodyPost_ret (results_tmp2 rfl _ _ _) rfl ⟨rfl, unhide HB⟩
set_option maxRecDepth 100000 in
set_option maxHeartbeats 2000000 in
/-- maps.Clone -/
theorem MClone_at (r : Nat) (L : List Mk) (X : World) (h : IsMp X r L) :
    Calls Try.prog 31 #[.map (some r)] X fun y X' => y = .returned (.map (some X.heap.size)) ∧ IsMp X' X.heap.size L ∧ Below X.heap.size X X' := by
  obtain ⟨es, clock, h1, h2⟩ := h.clone
  have HB := hide ((Below.refl X.heap.size X).alloc (Nat.le_refl _) (.map es clock))
  have HM := hide h2
  have hq := run_eql_map_nil_sl (P := Try.prog) X 67 _ _ (some r) Try.underlying67
  have H1 := hide h1
  clear h h1 h2
  go_enter Try.func31, Try.ntmps31
  go_wp2_with fail
  rw [run_callFunc_extern Try.func48 (by kernel_rfl) (by kernel_rfl) (by kernel_rfl) (e := Extern.MapsClone.clone) (by kernel_rfl), run_maps_clone_sl X 67 (unhide H1)]
  simp only [Result.andThen]
  rw [Oper.upon_value]
  go_wp2_with fail
  rw [run_typeAssert_map_sl _ 67 _ _ _ _ Try.underlying67]
  simp only [Result.andThen]
  rw [Oper.upon_value]
  go_wp2_with fail
  refine bodyPost_ret (results_tmp rfl _ _ _) rfl ⟨rfl, unhide HM, unhide HB⟩
theorem below_block {N r : Nat} {X Y : World} (hb : Below N X Y) (o : Obj) (hr : N ≤ r) : Below N X { Y with heap := Y.heap.setIfInBounds r o } := by
  refine ⟨hb.os, hb.tape, hb.output, by simpa using hb.size, fun k hk => ?_⟩
  have hne : k ≠ r := by omega
  rw [← hb.block k hk]
  simp [Ne.symm hne]
set_option maxRecDepth 100000 in
set_option maxHeartbeats 2000000 in
theorem MDrop_at (g : Nat) (n : Int) (L : List Mk) (s : ByteArray) (X : World) (h : IsMs X g n L) (m : Mk) (hg : getM s L = some m) :
    Calls Try.prog 17 #[.pointer (some ⟨g, 0, none⟩), .string s] X fun y X' => ∃ g', y = .returned (.tuple #[.pointer (some ⟨g', 0, none⟩), .int .i64 0]) ∧ IsMs X' g' n (delM s L) ∧ Below X.heap.size X X' := by
  obtain ⟨r, h1, h2⟩ := h.c
  have c1 := h1.cell 1
  simp only [List.getElem?_toArray, List.getElem?_cons_zero, List.getElem?_cons_succ] at c1
  have R := run_lookup_mk (P := Try.prog) X Try.underlying67 Try.underlying9 (zero_mk _) h2 s
  rw [hg] at R
  simp only [Option.map_some, Option.getD_some, Option.isSome_some, mkV] at R
  obtain ⟨mn, mp, mg⟩ := m
  dsimp only at R
  have b1 := (Below.refl X.heap.size X).alloc (Nat.le_refl _) (.cells #[.string mn, .int .i64 mp, .int .i64 mg] 42)
  have h9 := h.below b1 (Nat.le_refl _)
  have HB := hide b1
  have H9 := hide h9
  clear h h1 h2 hg b1 h9
  go_enter Try.func17, Try.ntmps17
  go_upto_region 6 with fail
  clear R c1
  generalize X.alloc (.cells #[.string mn, .int .i64 mp, .int .i64 mg] 42) = w1 at *
  obtain ⟨r1, k1, k2⟩ := (unhide H9).c
  have c1 := k1.cell 1
  simp only [List.getElem?_toArray, List.getElem?_cons_zero, List.getElem?_cons_succ] at c1
  have HC := hide (MClone_at r1 L w1 k2)
  have HK := hide k1
  clear k1 k2 H9
  go_wp2_with fail
  refine (unhide HC).mono ?_
  rintro y w2 ⟨rfl, m2, x2⟩
  dsimp only
  obtain ⟨o, R2, m3⟩ := run_delete_mk (P := Try.prog) (ty := 0) w2 Try.underlying67 Try.underlying9 m2 s
  have kk := (unhide HK).below x2 (unhide HK).lt
  have hne : w1.heap.size ≠ g := (Nat.ne_of_lt (unhide HK).lt).symm
  have k3 : Cls { w2 with heap := w2.heap.setIfInBounds w1.heap.size o } g 69 #[.int .i64 n, .map (some r1)] := kk.same (by simp [hne])
  have b3 := below_block ((unhide HB).trans (x2.mono (unhide HB).size)) o (unhide HB).size
  have c0 := k3.cell 0
  simp only [List.getElem?_toArray, List.getElem?_cons_zero] at c0
  clear HC c1 HK HB kk k3 m2 x2 hne
  have R2' := R2
  generalize ({ w2 with heap := w2.heap.setIfInBounds w1.heap.size o } : World) = w3 at *
  generalize w1.heap.size = rn at *
  have k5 := Cls.new w3 69 #[.int .i64 n, .map (some rn)]
  have m5 : IsMp (w3.alloc (.cells #[.int .i64 n, .map (some rn)] 69)) rn (delM s L) := m3.same (heap_alloc_old _ _ m3.lt)
  have HR : Hid (IsMs (w3.alloc (.cells #[.int .i64 n, .map (some rn)] 69)) w3.heap.size n (delM s L)) := hide ⟨_, k5, m5⟩
  have HB5 := hide (b3.alloc b3.size (.cells #[.int .i64 n, .map (some rn)] 69))
  clear k5 m5 m3 b3 R2'
  go_wp2_with fail
  refine bodyPost_ret (results_tmp2 rfl _ _ _) rfl ⟨_, rfl, unhide HR, unhide HB5⟩
end Go.Proofs.Ytfllomlighlejaa
end

section
namespace Go.Proofs.Ytfllomlighlejaa
open Region
section
variable {P : Program} {md : Region.Mode} {ops : Array Oper} {Q : Exit → Act → World → Prop} {S : World → Prop} {late : Nat → Bool}
def Wait2 (md : Region.Mode) (ops : Array Oper) (late : Nat → Bool) (listed : Array Bool) (i : Nat) : Prop := ∀ (j : Nat) (oj : Oper), ops[j]? = some oj → late j = true → listed.getD j false = true ∨ reach md ops ops.size j i = true
def wait2B (md : Region.Mode) (ops : Array Oper) (late : Nat → Bool) (listed : Array Bool) (i : Nat) : Bool := (List.range ops.size).all fun j => !late j || (listed.getD j false || reach md ops ops.size j i)
theorem wait2_spec {listed : Array Bool} {i : Nat} (h : wait2B md ops late listed i = true) : Wait2 md ops late listed i := fun j oj hj hl => by
  have := List.all_eq_true.1 h j (List.mem_range.2 (Array.getElem?_eq_some_iff.1 hj).1)
  rw [hl, Bool.not_true, Bool.false_or, Bool.or_eq_true] at this
  exact this
theorem getD_more {listed : Array Bool} {j k : Nat} (h : listed.getD k false = true) : (listed.setIfInBounds j true).getD k false = true := by
  by_cases hjk : j = k
  · subst hjk
    have hl : j < listed.size := by
      rcases Nat.lt_or_ge j listed.size with h' | h'
      · exact h'
      · simp [Array.getElem?_eq_none h'] at h
    simp [hl]
  · simpa [hjk] using h
theorem anyL_first2 {i : Nat} {oi : Oper} {v : Value} (hi : ops[i]? = some oi) (hsel : ∀ (j : Nat) (o : Oper) cs b, ops[j]? = some o → o.op ≠ .select cs b)
    (hQ : ∀ c a w, Q (.panic c) (a.put oi.dst v) w → Q (.panic c) a w) :
    ∀ (fuel : Nat) (listed : Array Bool) (a : Act) (w : World), Wait2 md ops late listed i → Closed md ops listed →
      (∀ j oj, ops[j]? = some oj → j ≠ i → listed.getD j true = false → (∀ e ∈ oj.after, Region.binds md e = true → e.on ≠ i) → oi.apart ops oj = true) →
      i ∈ Region.ready md ops listed → YieldsIf P ops S oi v a → S w →
      anyL P md ops Q S late fuel (listed.setIfInBounds i true) (a.put oi.dst v) w → anyL P md ops Q S late (fuel + 1) listed a w
  | fuel, listed, a, w, hw, hc, hfree, hr, hy, hS, H => by
    refine ⟨fun h => (by rw [h] at hr; cases hr), fun j hj => ?_⟩
    by_cases hji : j = i
    · subst hji; exact hy.wpOp hi hS ⟨fun _ => hS, H⟩
    · obtain ⟨hjun, oj, hoj, hall⟩ := mem_ready.1 hj
      have hni : listed.getD i false = true → False := fun h1 => by
        have h0 := (mem_ready.1 hr).1
        rcases Nat.lt_or_ge i listed.size with h' | h'
        · simp [h'] at h0 h1; rw [h0] at h1; cases h1
        · simp [Array.getElem?_eq_none h'] at h1
      have hnj : listed.getD j false = true → False := fun h1 => by
        rcases Nat.lt_or_ge j listed.size with h' | h'
        · simp [h'] at hjun h1; rw [hjun] at h1; cases h1
        · simp [Array.getElem?_eq_none h'] at h1
      have hnot : ∀ e ∈ oj.after, Region.binds md e = true → e.on ≠ i := fun e he hb heq => hni (by rw [← heq]; exact hall e he hb)
      have hlate : late j = false := by
        cases hl : late j with
        | false => rfl
        | true =>
          rcases hw j oj hoj hl with h1 | h1
          · exact (hnj h1).elim
          · exact (hni (reach_listed hc _ j oj hoj hall h1)).elim
      match fuel, H with
      | 0, H =>
        have := ready_mono hj hji
        rw [H.1] at this
        cases this
      | fuel + 1, H =>
        have h2 := wpOp_putIf hoj (hfree j oj hoj hji hjun hnot) (fun cs b => hsel i oi cs b hi) (fun cs b => hsel j oj cs b hoj) hQ hy (H.2 j (ready_mono hj hji))
        refine wpOp_mono (fun a' w' h3 => ⟨h3.2.1, anyL_first2 hi hsel hQ fuel (listed.setIfInBounds j true) a' w' (fun k ok hk hl => (hw k ok hk hl).imp getD_more id) (closed_set hc hj) ?_ (ready_mono hr (Ne.symm hji)) h3.1 (h3.2.1 hlate) ?_⟩) h2
        · intro k ok hk hki hun hno
          refine hfree k ok hk hki ?_ hno
          by_cases hjk : j = k
          · subst hjk; exact hjun
          · rw [getD_set_ne true hjk] at hun; exact hun
        · rw [Array.setIfInBounds_comm _ _ hji]
          exact h3.2.2
theorem anyL_take2 {i : Nat} {oi : Oper} {v : Value} {fuel : Nat} {listed : Array Bool} {a : Act} {w : World} (hi : ops[i]? = some oi) (hs : Region.noSelect ops = true) (hf : Region.free md ops listed i = true)
    (hr : (Region.ready md ops listed).contains i = true) (hw : (wait2B md ops late listed i && closedB md ops listed) = true) (hQ : ∀ c a w, Q (.panic c) (a.put oi.dst v) w → Q (.panic c) a w) (hy : YieldsIf P ops S oi v a) (hS : S w)
    (h : anyL P md ops Q S late fuel (listed.setIfInBounds i true) (a.put oi.dst v) w) : anyL P md ops Q S late (fuel + 1) listed a w := by
  rw [Bool.and_eq_true] at hw
  exact anyL_first2 hi (Region.noSelect_spec hs) hQ fuel listed a w (wait2_spec hw.1) (closed_of hw.2) (Region.free_spec hi hf) (by simpa using hr) hy hS h
end
end Go.Proofs.Ytfllomlighlejaa
end
