/- A region that draws its order, whose last operations (the stores) overwrite what its first ones read: a condition S on the world that must hold behind every operation but the late ones, and late operations wait for all that S serves. · Layer 6: rule's edges: the iterator yields the edges in their order, by all three rulers. · Layer 6: contracts of rule's by, isRuler, isMode, Size, beside, find, To, Edge. · Layer 6: the contract of rule's beside: the edges beside a place. -/
import Derived.Test.YtkdnanlgkedjgabDoorDn13
import Derived.Test.YtkdnanlgkedjgabDoorDn10

section
namespace Go.Proofs.YtkdnanlgkedjgabDoor
open Go.ChangeShapes Go.WideShapes Go.ChangeAt Go.RowKit

section
variable {P : Program} {md : Region.Mode} {ops : Array Oper} {Q : Exit → Act → World → Prop} {S : World → Prop} {late : Nat → Bool}

def anyL (P : Program) (md : Region.Mode) (ops : Array Oper) (Q : Exit → Act → World → Prop) (S : World → Prop) (late : Nat → Bool) : Nat → Array Bool → Act → World → Prop
  | 0, listed, a, w => Region.ready md ops listed = [] ∧ Q .normal a w
  | fuel + 1, listed, a, w => (Region.ready md ops listed = [] → Q .normal a w) ∧
    ∀ i ∈ Region.ready md ops listed, wpOp P ops Q i (fun a' w' => (late i = false → S w') ∧ anyL P md ops Q S late fuel (listed.setIfInBounds i true) a' w') a w

theorem any_of_late : ∀ (fuel : Nat) (listed : Array Bool) (a : Act) (w : World), anyL P md ops Q S late fuel listed a w → wpAny P md ops Q fuel listed a w
  | 0, _, _, _, h => h
  | fuel + 1, _, _, _, h => ⟨h.1, fun i hi => wpOp_mono (fun a' w' h' => any_of_late fuel _ a' w' h'.2) (h.2 i hi)⟩

/-- j waits for i, over whatever stations -/
def reach (md : Region.Mode) (ops : Array Oper) : Nat → Nat → Nat → Bool
  | 0, _, _ => false
  | f + 1, j, i => match ops[j]? with | some o => o.after.any (fun e => Region.binds md e && (e.on == i || reach md ops f e.on i)) | none => false
def Closed (md : Region.Mode) (ops : Array Oper) (listed : Array Bool) : Prop := ∀ (j : Nat) (oj : Oper), ops[j]? = some oj → listed.getD j false = true → ∀ e ∈ oj.after, Region.binds md e = true → listed.getD e.on false = true
def closedB (md : Region.Mode) (ops : Array Oper) (listed : Array Bool) : Bool :=
  (List.range ops.size).all fun j => !listed.getD j false || (match ops[j]? with | some o => o.after.all (fun e => !Region.binds md e || listed.getD e.on false) | none => true)
theorem closed_of {listed : Array Bool} (h : closedB md ops listed = true) : Closed md ops listed := by
  intro j oj hj hl e he hb
  have := List.all_eq_true.1 h j (List.mem_range.2 (Array.getElem?_eq_some_iff.1 hj).1)
  rw [hl, hj] at this
  simp only [Bool.not_true, Bool.false_or] at this
  have h2 := Array.all_eq_true_iff_forall_mem.1 this e he
  rwa [hb, Bool.not_true, Bool.false_or] at h2
theorem closed_set {listed : Array Bool} {j : Nat} (h : Closed md ops listed) (hj : j ∈ Region.ready md ops listed) : Closed md ops (listed.setIfInBounds j true) := by
  obtain ⟨_, o, ho, hall⟩ := mem_ready.1 hj
  intro k ok hk hl e he hb
  by_cases hkj : k = j
  · subst hkj
    rw [ho] at hk
    cases hk
    exact getD_set_true (hall e he hb)
  · rw [getD_set_ne false (Ne.symm hkj)] at hl
    exact getD_set_true (h k ok hk hl e he hb)
theorem reach_listed {listed : Array Bool} (hc : Closed md ops listed) {i : Nat} : ∀ (f j : Nat) (oj : Oper), ops[j]? = some oj → (∀ e ∈ oj.after, Region.binds md e = true → listed.getD e.on false = true) → reach md ops f j i = true → listed.getD i false = true
  | 0, _, _, _, _, h => by cases h
  | f + 1, j, oj, hj, hall, h => by
    simp only [reach, hj, Array.any_eq_true, Bool.and_eq_true, Bool.or_eq_true, beq_iff_eq] at h
    obtain ⟨k, hk, hb, h⟩ := h
    have hl := hall oj.after[k] (Array.getElem_mem hk) hb
    rcases h with h | h
    · rw [← h]; exact hl
    · cases ho : ops[oj.after[k].on]? with
      | none =>
        cases f with
        | zero => cases h
        | succ f => simp only [reach, ho] at h; cases h
      | some o => exact reach_listed hc f _ o ho (fun e he hb => hc _ o ho hl e he hb) h
/-- every late operation waits for i -/
def waits (md : Region.Mode) (ops : Array Oper) (late : Nat → Bool) (i : Nat) : Bool := (List.range ops.size).all fun j => !late j || reach md ops ops.size j i
theorem waits_spec {i j : Nat} {oj : Oper} (h : waits md ops late i = true) (hj : ops[j]? = some oj) (hl : late j = true) : reach md ops ops.size j i = true := by
  have := List.all_eq_true.1 h j (List.mem_range.2 (Array.getElem?_eq_some_iff.1 hj).1)
  rwa [hl, Bool.not_true, Bool.false_or] at this

theorem anyL_first {i : Nat} {oi : Oper} {v : Value} (hi : ops[i]? = some oi) (hsel : ∀ (j : Nat) (o : Oper) cs b, ops[j]? = some o → o.op ≠ .select cs b)
    (hQ : ∀ c a w, Q (.panic c) (a.put oi.dst v) w → Q (.panic c) a w) (hw : waits md ops late i = true) :
    ∀ (fuel : Nat) (listed : Array Bool) (a : Act) (w : World), Closed md ops listed →
      (∀ j oj, ops[j]? = some oj → j ≠ i → listed.getD j true = false → (∀ e ∈ oj.after, Region.binds md e = true → e.on ≠ i) → oi.apart ops oj = true) →
      i ∈ Region.ready md ops listed → YieldsIf P ops S oi v a → S w →
      anyL P md ops Q S late fuel (listed.setIfInBounds i true) (a.put oi.dst v) w → anyL P md ops Q S late (fuel + 1) listed a w
  | fuel, listed, a, w, hc, hfree, hr, hy, hS, H => by
    refine ⟨fun h => (by rw [h] at hr; cases hr), fun j hj => ?_⟩
    by_cases hji : j = i
    · subst hji; exact hy.wpOp hi hS ⟨fun _ => hS, H⟩
    · obtain ⟨hjun, oj, hoj, hall⟩ := mem_ready.1 hj
      have hni : listed.getD i false = true → False := fun h1 => by
        have h0 := (mem_ready.1 hr).1
        rcases Nat.lt_or_ge i listed.size with h' | h'
        · simp [h'] at h0 h1; rw [h0] at h1; cases h1
        · simp [Array.getElem?_eq_none h'] at h1
      have hnot : ∀ e ∈ oj.after, Region.binds md e = true → e.on ≠ i := fun e he hb heq => hni (by rw [← heq]; exact hall e he hb)
      have hlate : late j = false := by
        cases hl : late j with
        | false => rfl
        | true => exact (hni (reach_listed hc _ j oj hoj hall (waits_spec hw hoj hl))).elim
      match fuel, H with
      | 0, H =>
        have := ready_mono hj hji
        rw [H.1] at this
        cases this
      | fuel + 1, H =>
        have h2 := wpOp_putIf hoj (hfree j oj hoj hji hjun hnot) (fun cs b => hsel i oi cs b hi) (fun cs b => hsel j oj cs b hoj) hQ hy (H.2 j (ready_mono hj hji))
        refine wpOp_mono (fun a' w' h3 => ⟨h3.2.1, anyL_first hi hsel hQ hw fuel (listed.setIfInBounds j true) a' w' (closed_set hc hj) ?_ (ready_mono hr (Ne.symm hji)) h3.1 (h3.2.1 hlate) ?_⟩) h2
        · intro k ok hk hki hun hno
          refine hfree k ok hk hki ?_ hno
          by_cases hjk : j = k
          · subst hjk; exact hjun
          · rw [getD_set_ne true hjk] at hun; exact hun
        · rw [Array.setIfInBounds_comm _ _ hji]
          exact h3.2.2

theorem anyL_take {i : Nat} {oi : Oper} {v : Value} {fuel : Nat} {listed : Array Bool} {a : Act} {w : World} (hi : ops[i]? = some oi) (hs : Region.noSelect ops = true) (hf : Region.free md ops listed i = true)
    (hr : (Region.ready md ops listed).contains i = true) (hw : (waits md ops late i && closedB md ops listed) = true) (hQ : ∀ c a w, Q (.panic c) (a.put oi.dst v) w → Q (.panic c) a w) (hy : YieldsIf P ops S oi v a) (hS : S w)
    (h : anyL P md ops Q S late fuel (listed.setIfInBounds i true) (a.put oi.dst v) w) : anyL P md ops Q S late (fuel + 1) listed a w := by
  rw [Bool.and_eq_true] at hw
  exact anyL_first hi (Region.noSelect_spec hs) hQ hw.1 fuel listed a w (closed_of hw.2) (Region.free_spec hi hf) (by simpa using hr) hy hS h

def AllL (P : Program) (md : Region.Mode) (ops : Array Oper) (Q : Exit → Act → World → Prop) (S : World → Prop) (late : Nat → Bool) (fuel : Nat) (listed : Array Bool) (a : Act) (w : World) (rs : List Nat) : Prop :=
  ∀ i ∈ rs, wpOp P ops Q i (fun a' w' => (late i = false → S w') ∧ anyL P md ops Q S late fuel (listed.setIfInBounds i true) a' w') a w
theorem AllL.nil {fuel : Nat} {listed : Array Bool} {a : Act} {w : World} : AllL P md ops Q S late fuel listed a w [] := fun _ h => by cases h
theorem AllL.cons {fuel : Nat} {listed : Array Bool} {a : Act} {w : World} {i : Nat} {o : Oper} {rs : List Nat} (ho : ops[i]? = some o)
    (h : ∀ K' : Act → World → Prop, Hid (∀ a w, (late i = false → S w) → anyL P md ops Q S late fuel (listed.setIfInBounds i true) a w → K' a w) → if Region.wanted o (yielded ops a.tmps) = true then Oper.wp P o a w K' Q else K' (a.put o.dst undef) w)
    (hs : AllL P md ops Q S late fuel listed a w rs) : AllL P md ops Q S late fuel listed a w (i :: rs) := fun j hj => by
  rcases List.mem_cons.1 hj with rfl | hj
  · exact wpOp_step ho (fun K' hK => h K' (hide fun a w h1 h2 => hK a w ⟨h1, h2⟩))
  · exact hs j hj
theorem anyL_ready {rs : List Nat} {fuel : Nat} {listed : Array Bool} {a : Act} {w : World} (hr : Region.ready md ops listed = rs) (hne : rs ≠ [])
    (h : AllL P md ops Q S late fuel listed a w rs) : anyL P md ops Q S late (fuel + 1) listed a w := ⟨fun h0 => absurd (hr ▸ h0) hne, hr ▸ h⟩
theorem anyL_done {listed : Array Bool} {a : Act} {w : World} (hr : Region.ready md ops listed = []) (h : Q .normal a w) : ∀ fuel, anyL P md ops Q S late fuel listed a w
  | 0 => ⟨hr, h⟩
  | _ + 1 => ⟨fun _ => h, by rw [hr]; simp⟩

/-- the beginning, within a round -/
theorem regionL_in {l n id : Nat} {a : Act} {w : World} (late : Nat → Bool) (hm : P.follows .mixedOrders = true) (hd : ∀ (j : Nat) (o : Oper) c, ops[j]? = some o → o.op ≠ .defer c) (hq : ¬ LetsOut Q)
    (h : anyL P .any ops Q S late ops.size (Array.replicate ops.size false) a w.drew) : (Code.region id ops true).wpIn (Fence.wide.inRound l) n P Q a w :=
  wpIn_region_any hm (any_in hd hq _ _ _ _ (any_of_late _ _ _ _ h))
/-- and outside one -/
theorem regionL {id : Nat} {a : Act} {w : World} (late : Nat → Bool) (hm : P.follows .mixedOrders = true)
    (h : anyL P .any ops Q S late ops.size (Array.replicate ops.size false) a w.drew) : (Code.region id ops true).wp P Q a w :=
  wp_region_any hm (any_of_late _ _ _ _ h)
end

end Go.Proofs.YtkdnanlgkedjgabDoor
end

section
namespace Go.Proofs.YtkdnanlgkedjgabDoor
open Go.ChangeShapes Go.WideShapes Go.ChangeAt Go.RowKit
attribute [local go_sem] Oper.semAt_some

def edV (e : Ed) : Value := .agg #[.int .i64 (e.1 : Int), .int .i64 (e.2.1 : Int), .int .i64 (e.2.2 : Int)]

theorem IsB.kb {q : Nat → Prop} {N : Nat} {A B : World} {a0 : Option Addr} {cap : Nat} {l : List Int} (h : IsB A a0 cap l) (hk : KB q N A B) (hq : ∀ g off, l ≠ [] → a0 = some ⟨g, off, none⟩ → q g ∨ N ≤ g) : IsB B a0 cap l := by
  obtain ⟨h1, h2, h3, h4⟩ := h
  refine ⟨h1, h2, ?_, h4⟩
  rcases h3 with h3 | ⟨g, off, rfl, hL⟩
  · exact Or.inl h3
  · by_cases hl : l = []
    · exact Or.inl hl
    · exact Or.inr ⟨g, off, rfl, fun i hi => ⟨kb_cell hk (hq g off hl rfl) (hL i hi).1, (hL i hi).2⟩⟩

theorem wrap_in (n : Int) (h0 : -9223372036854775808 ≤ n) (h1 : n ≤ 9223372036854775807) : wrap64 n = n := by unfold wrap64; omega

theorem wrap_nat (a b : Nat) (h : a + b ≤ 9223372036854775807) : wrap64 ((a : Int) + (b : Int)) = (a : Int) + (b : Int) := wrap_in _ (by omega) (by omega)
theorem wrap_i (a b : Nat) (h : a + b ≤ 9223372036854775807) : IntKind.i64.wrap ((a : Int) + (b : Int)) = (a : Int) + (b : Int) := by rw [IntKind.wrap_i64]; omega
theorem ulen_nat (r : Int) : ((ulen r).toNat : Int) = ulen r := by
  unfold ulen
  split
  · split <;> rfl
  · rfl

/-- the frame in a round of edges' own loop -/
def edA (lo gY Bn : Nat) (a0 : Option Addr) (cap : Nat) (l : List Int) (gS : Nat) (x : Nat) (a : Act) (X : World) : Prop :=
  ∃ Bx, Cls X Bx 96 #[.int .i32 (first (l.drop x)).1, .int .i64 (wid (l.drop x)), .bool (whl (l.drop x))] ∧ gS < Bx ∧
    a = { tmps := #[.func (.yield lo) #[] #[], .pointer (some ⟨Bn, 0, none⟩), .pointer (some ⟨gY, 0, none⟩), .pointer (some ⟨gY + 1, 0, none⟩), undef, .pointer (some ⟨Bx, 0, none⟩), .func (.yield lo) #[] #[], .agg #[.int .i64 0, .int .i64 0, .int .i64 0], .bool true, .bool false, .slice a0 l.length cap, .func (.func 57) #[] #[.pointer (some ⟨gS, 0, none⟩)], .int .i64 (x : Int), .agg #[.int .i32 (first (l.drop x)).1, .int .i64 (wid (l.drop x)), .bool (whl (l.drop x))], undef, undef, undef, undef, undef, undef, undef, undef, undef, undef, undef, undef, undef, undef, undef, undef, undef, undef, undef, undef, undef], defers := [] }
theorem edL_head (l : List Int) (ps : List Nat) : [e0] <+: edL l ps := by rw [← edL_nil l]; exact edL_pre (List.nil_prefix)

end Go.Proofs.YtkdnanlgkedjgabDoor
end

section
namespace Go.Proofs.YtkdnanlgkedjgabDoor
open Go.ChangeShapes Go.WideShapes Go.ChangeAt Go.RowKit
def isRu (r : Int) : Bool := decide (1 ≤ r ∧ r ≤ 3)
def lastBy (r : Int) (pre : List Ed) : Nat := match pre.getLast? with | some e => byE r e | none => 0
theorem lastBy_snoc (r : Int) (pre : List Ed) (e : Ed) : lastBy r (pre ++ [e]) = byE r e := by simp [lastBy]
end Go.Proofs.YtkdnanlgkedjgabDoor
end

section
namespace Go.Proofs.YtkdnanlgkedjgabDoor
open Go.ChangeShapes Go.WideShapes Go.ChangeAt Go.RowKit
attribute [local go_sem] Oper.semAt_some

def edC (e : Ed) : Array Value := #[.int .i64 (e.1 : Int), .int .i64 (e.2.1 : Int), .int .i64 (e.2.2 : Int)]
def lastE (pre : List Ed) : Ed := pre.getLast?.getD e0
theorem lastE_snoc (pre : List Ed) (e : Ed) : lastE (pre ++ [e]) = e := by simp [lastE]
def put3 (Y : World) (g : Nat) (x : Ed) : World := ((Y.setCell ⟨g, 0, none⟩ (.int .i64 (x.1 : Int))).setCell ⟨g, 1, none⟩ (.int .i64 (x.2.1 : Int))).setCell ⟨g, 2, none⟩ (.int .i64 (x.2.2 : Int))
theorem put3_same {Y : World} {g : Nat} {t : TypeId} {e : Ed} (x : Ed) (h : Cls Y g t (edC e)) : Cls (put3 Y g x) g t (edC x) := ((h.set 0 _).set 1 _).set 2 _
theorem put3_other {Y : World} {g B : Nat} {t : TypeId} {cs : Array Value} (x : Ed) (h : Cls Y B t cs) (hg : B ≠ g) : Cls (put3 Y g x) B t cs := ((h.other _ _ hg).other _ _ hg).other _ _ hg
theorem put3_below {N g : Nat} (Y : World) (x : Ed) (h : N ≤ g) : Below N Y (put3 Y g x) := ((setCell_below Y _ _ h).trans (setCell_below _ _ _ h)).trans (setCell_below _ _ _ h)
theorem put3_kb {q : Nat → Prop} {N g : Nat} (Y : World) (x : Ed) (h : ¬ q g) (h' : g < N) : KB q N Y (put3 Y g x) := ((KB.setCell Y _ _ h h').trans (KB.setCell _ _ _ h h')).trans (KB.setCell _ _ _ h h')
theorem put3_size (Y : World) (g : Nat) (x : Ed) : (put3 Y g x).heap.size = Y.heap.size := by unfold put3; rw [setCell_size, setCell_size, setCell_size]
theorem drew_below (N : Nat) (Y : World) : Below N Y Y.drew := ⟨rfl, rfl, rfl, Nat.le_refl _, fun _ _ => rfl⟩

end Go.Proofs.YtkdnanlgkedjgabDoor
end
