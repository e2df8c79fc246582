/- Layer 13: Canon. · Layer 13: what the sizes' methods leave alone; eachChange (written by wip/tools/dmq.py). · Layer 13, the document's: Copy, Same. · Layer 13, the document's: add. · Layer 13, the document's: add whole; Canon. · Layer 13, the document's Canon. -/
import Derived.Test.YtecfojkaoibldaaDoorDx40
import Derived.Test.YtecfojkaoibldaaDoorDx37
import Derived.Test.YtecfojkaoibldaaDoorDx33
import Derived.Test.YtecfojkaoibldaaDoorDx04
import Derived.Deep.AppendSrc
import Derived.RegionTactic
import Derived.ChangeAlike
import Derived.Test.YtecfojkaoibldaaDoorDx35

section
namespace Go.Proofs.YtecfojkaoibldaaDoor
open Go.ChangeShapes Go.WideShapes Go.ChangeAt Go.RowKit
attribute [local go_sem] Oper.semAt_some

theorem ins_len : ∀ a : List Atm, (insD a).length = a.length + 1
  | [] => rfl
  | .k :: _ => rfl
  | .d :: _ => rfl
  | .p x :: a => by simp only [insD, List.length_cons]; rw [ins_len a]
theorem nf_len : ∀ a : List Atm, (nfA a).length = a.length
  | [] => rfl
  | .k :: a => by simp only [nfA, List.length_cons]; rw [nf_len a]
  | .p x :: a => by simp only [nfA, List.length_cons]; rw [nf_len a]
  | .d :: a => by simp only [nfA, List.length_cons]; rw [ins_len, nf_len a]
theorem pln_pos {o : Dop} (h : Pln o) : 1 ≤ (opA o).length := by
  rcases h with ⟨h1 | h1, h2, _⟩ | ⟨h1, _, h3⟩
  · simp [opA, h1]; omega
  · simp [opA, h1]; omega
  · simp [opA, h1]
    cases ht : o.t with
    | nil => exact absurd ht h3
    | cons a r => simp
theorem can_len : ∀ {d : List Dop}, (∀ o ∈ d, Pln o) → d.length ≤ (dA d).length
  | [], _ => Nat.le_refl _
  | o :: r, h => by
    have := can_len (d := r) (fun x hx => h x (List.mem_cons_of_mem _ hx))
    have := pln_pos (h o List.mem_cons_self)
    rw [dA_cons, List.length_append, List.length_cons]
    omega
theorem dA_len : ∀ {d : List Dop}, (∀ o ∈ d, o.k = 1 ∨ o.k = 2 ∨ o.k = 3) → (dA d).length ≤ frD d + toD d
  | [], _ => Nat.le_refl _
  | o :: r, h => by
    have ih := dA_len (d := r) (fun x hx => h x (List.mem_cons_of_mem _ hx))
    have e : (opA o).length ≤ frN o + toN o := by
      unfold opA frN toN
      rcases h o List.mem_cons_self with h1 | h1 | h1 <;> simp [h1]
    have e1 : frD (o :: r) = frN o + frD r := by simp [frD]
    have e2 : toD (o :: r) = toN o + toD r := by simp [toD]
    rw [dA_cons, List.length_append, e1, e2]
    omega
/-- what a builder holds is no more than what was handed on -/
theorem feed_bound (u : List Atm) : (feedA b0 u).ops.length + (feedA b0 u).kept + (feedA b0 u).tx.length + (feedA b0 u).dr ≤ u.length := by
  have hw := wb_feed u wb0
  have h1 := congrArg List.length (feed_atoms u wb0)
  rw [nf_len, nf_len, fin_atoms] at h1
  have h2 := can_len hw.c.p
  simp only [List.length_append, List.length_replicate, List.length_map, show dA b0.fin = [] from rfl, List.length_nil, Nat.zero_add] at h1
  omega
theorem ts_len {ts : List (List Int)} (h : ∀ x ∈ ts, x ≠ []) : ts.length ≤ ts.flatten.length := by
  induction ts with
  | nil => simp
  | cons a r ih =>
    have := ih (fun x hx => h x (List.mem_cons_of_mem _ hx))
    have : 1 ≤ a.length := by cases a with | nil => exact absurd rfl (h [] (by simp)) | cons b q => simp
    simp only [List.length_cons, List.flatten_cons, List.length_append]
    omega
theorem bd_ok {X : World} {B g o : Nat} {r : Nat → Option Value} {u : List Atm} {ts : List (List Int)} (h : IsBd X B g o r (feedA b0 u) ts) (hu : u.length ≤ 1073741824) : BdOk (feedA b0 u) ts := by
  have h1 := feed_bound u
  have h2 := ts_len h.t.2
  rw [h.t.1] at h2
  exact ⟨by omega, by omega, by omega, by omega, by omega⟩
theorem dA_take (d : List Dop) (k : Nat) : (dA (d.take k)).length ≤ (dA d).length := by
  have : dA d = dA (d.take k) ++ dA (d.drop k) := by rw [← dA_app, List.take_append_drop]
  rw [this, List.length_append]
  omega
theorem op_keep {b : Bld} {o : Dop} (h : o.k = 1) : b.op o = b.keep o.n.toNat := by unfold Bld.op; rw [if_pos h]
theorem op_put {b : Bld} {o : Dop} (h : o.k = 2) : b.op o = b.put o.t := by unfold Bld.op; rw [if_neg (by omega), if_pos h]
theorem op_drop {b : Bld} {o : Dop} (h : o.k = 3) : b.op o = b.drop o.n.toNat := by unfold Bld.op; rw [if_neg (by omega), if_neg (by omega)]
/-- each of a builder, from nothing on -/
theorem each_bd (a : Option Addr) (c B g o : Nat) (r : Nat → Option Value) (d : List Dop) (X : World) (hd : ∀ Y, Below B X Y → IsO Y a d) (hX : IsBd X B g o r b0 []) (hB : B ≤ X.heap.size) (hl : d.length ≤ 4611686018427387904) (hk : ∀ q ∈ d, q.k = 1 ∨ q.k = 2 ∨ q.k = 3) (hn : ∀ q ∈ d, NnD q) (hz : frD d + toD d ≤ 1073741824) :
    Calls Tryd.prog 53 #[.slice a d.length c, .func (.func 68) #[.pointer (some ⟨g, o, none⟩)] #[], .func (.func 69) #[.pointer (some ⟨g, o, none⟩)] #[], .func (.func 70) #[.pointer (some ⟨g, o, none⟩)] #[]] X
      fun y X' => y = .returned (.tuple #[]) ∧ (∃ ts, IsBd X' B g o r (feedA b0 (dA d)) ts) ∧ Below B X X' := by
  have hb : ∀ k, (dA (d.take k)).length ≤ 1073741824 := fun k => by have := dA_take d k; have := dA_len hk; omega
  have := each_at a c B d X 68 69 70 (.pointer (some ⟨g, o, none⟩))
    (fun k Y => (∃ ts, IsBd Y B g o r (feedA b0 (dA (d.take k))) ts) ∧ Below B X Y)
    (enters_of Tryd.func68 (by kernel_rfl) rfl) (enters_of Tryd.func69 (by kernel_rfl) rfl) (enters_of Tryd.func70 (by kernel_rfl) rfl)
    hd (fun k Y hY => hY.2) (fun k Y q ⟨⟨ts, h1⟩, h2⟩ => ⟨⟨ts, h1.on ((Below.refl Y.heap.size Y).alloc (Nat.le_refl _) q) (Nat.le_refl _)⟩, h2.alloc (Nat.le_trans hB h2.size) q⟩) ⟨⟨[], hX⟩, Below.refl _ _⟩ hl
    (fun k Y hlt h1 ⟨⟨ts, hY⟩, hb2⟩ => by
      obtain ⟨m, hm⟩ : ∃ m : Nat, (d.getD k opZ).n = (m : Int) := ⟨(d.getD k opZ).n.toNat, by have := hn _ (getD_memD hlt) (.inl h1); omega⟩
      have hfr : m ≤ frD d + toD d := by
        have e1 := frD_take d hlt
        have e2 : frN (d.getD k opZ) = m := by unfold frN; rw [if_pos (.inl h1), hm]; simp
        have e3 : frD (d.take (k + 1)) ≤ frD d := by
          have : frD d = frD (d.take (k + 1)) + frD (d.drop (k + 1)) := by unfold frD; rw [← List.sum_append, ← List.map_append, List.take_append_drop]
          omega
        omega
      have e : feedA b0 (dA (d.take (k + 1))) = (feedA b0 (dA (d.take k))).keep m := by rw [← feedD_A, ← feedD_A, feedD_take d hlt, op_keep h1, hm]; simp
      rw [hm, e]
      exact (bkeep_at B g o r _ ts m Y hY (bd_ok hY (hb k)) (by omega) (Nat.le_trans hB hb2.size)).mono fun y Z ⟨q, ⟨ts', h3, _⟩, h4⟩ => ⟨q, ⟨ts', h3⟩, hb2.trans h4⟩)
    (fun k Y hlt h1 ⟨⟨ts, hY⟩, hb2⟩ => by
      have e : feedA b0 (dA (d.take (k + 1))) = (feedA b0 (dA (d.take k))).put (d.getD k opZ).t := by rw [← feedD_A, ← feedD_A, feedD_take d hlt, op_put h1]
      rw [e]
      exact (bput_at B g o r _ ts _ Y hY (bd_ok hY (hb k)).t (Nat.le_trans hB hb2.size)).mono fun y Z ⟨q, h3, h4⟩ => ⟨q, ⟨_, h3⟩, hb2.trans h4⟩)
    (fun k Y hlt h1 ⟨⟨ts, hY⟩, hb2⟩ => by
      obtain ⟨m, hm⟩ : ∃ m : Nat, (d.getD k opZ).n = (m : Int) := ⟨(d.getD k opZ).n.toNat, by have := hn _ (getD_memD hlt) (.inr h1); omega⟩
      have hfr : m ≤ frD d + toD d := by
        have e1 := frD_take d hlt
        have e2 : frN (d.getD k opZ) = m := by unfold frN; rw [if_pos (.inr h1), hm]; simp
        have e3 : frD (d.take (k + 1)) ≤ frD d := by
          have : frD d = frD (d.take (k + 1)) + frD (d.drop (k + 1)) := by unfold frD; rw [← List.sum_append, ← List.map_append, List.take_append_drop]
          omega
        omega
      have e : feedA b0 (dA (d.take (k + 1))) = (feedA b0 (dA (d.take k))).drop m := by rw [← feedD_A, ← feedD_A, feedD_take d hlt, op_drop h1, hm]; simp
      rw [hm, e]
      exact (bdrop_at B g o r _ ts m Y hY (by have := (bd_ok hY (hb k)).d; omega)).mono fun y Z ⟨q, h3, h4⟩ => ⟨q, ⟨ts, h3⟩, hb2.trans h4⟩)
    (fun k Y hlt h1 h2 h3 _ => by rcases hk _ (getD_memD hlt) with h | h | h <;> contradiction)
  rw [List.take_length] at this
  exact this
theorem own_lower {X : World} {B B' s n : Nat} {t : TypeId} {v : Value} {xs : List Value} (h : X.ownsRow B t s v n xs) (hB : B' ≤ B) : X.ownsRow B' t s v n xs := by
  refine ⟨h.1, ?_⟩
  rcases h.2 with h2 | ⟨g, cap, cur, e, h3, h4⟩
  · exact Or.inl h2
  · exact Or.inr ⟨g, cap, cur, e, Nat.le_trans hB h3, h4⟩
/-- what Canon answers -/
def canD (d : List Dop) : List Dop × Int := if d.all knB then (if lonB d then ([], 5) else (canA (dA d), 0)) else ([], 130)
theorem row_nilD (w : World) (B : Nat) : w.ownsRow B 38 3 (.slice none 0 0) ([] : List Dop).length (opsV []) := World.ownsRow_nil _ _ _ _
theorem bd_new (w : World) : IsBd (w.alloc (.cells #[.slice none 0 0, .int .i64 0, .slice none 0 0, .int .i64 0] 109)) w.heap.size w.heap.size 0 (fun _ => none) b0 [] := by
  refine ⟨⟨.slice none 0 0, .slice none 0 0, ⟨_, _, World.alloc_heap_new w _, .inl rfl, rfl, rfl, rfl, rfl, fun j hj => ?_⟩, World.ownsRow_nil _ _ _ _, World.ownsRow_nil _ _ _ _⟩, ⟨rfl, fun x hx => by simp at hx⟩, Nat.le_refl _, fun cs q e1 _ => by cases e1⟩
  exact Array.getElem?_eq_none (by simp; omega)
end Go.Proofs.YtecfojkaoibldaaDoor
end

section
namespace Go.Proofs.YtecfojkaoibldaaDoor
open Go.ChangeShapes Go.WideShapes Go.ChangeAt Go.RowKit
attribute [local go_sem] Oper.semAt_some

set_option maxRecDepth 100000 in
set_option maxHeartbeats 1000000 in
theorem zputF_at (g f t n : Nat) (s : ByteArray) (X : World) (h : IsZ X g f t) (ht : t ≤ 268435457) (hs : s.size = n) :
    Calls Tryd.prog 65 #[.pointer (some ⟨g, 0, none⟩), .string s] X fun y X' => y = .returned (.tuple #[]) ∧ IsZ X' g f (satD (t + n)) ∧ Below g X X' ∧ ∀ i, i ≠ g → X'.heap[i]? = X.heap[i]? := by
  have HM := hide (more_at t n X ht)
  obtain ⟨c0, c1, f0, f1⟩ := h.cells
  have HR := hide (h.set1 (satD (t + n)))
  have HB := hide (And.intro ((Below.refl g X).setCell (p := ⟨g, 1, none⟩) (Nat.le_refl _) (.int .i64 (satD (t + n) : Int))) (fun (i : Nat) (hi : i ≠ g) => Below.heap_setCell X ⟨g, 1, none⟩ (.int .i64 (satD (t + n) : Int)) i hi))
  generalize satD (t + n) = M at *
  clear h ht c0 f0
  go_enter Tryd.func65, Tryd.ntmps65
  go_wp2_with fail
  refine (unhide HM).mono ?_
  rintro y X' ⟨rfl, rfl⟩
  dsimp only
  clear HM
  go_wp2_with fail
  exact bodyPost_end (v := .tuple #[]) (results_none Tryd.results65 _ _ _) rfl ⟨rfl, unhide HR, unhide HB⟩
set_option maxRecDepth 100000 in
set_option maxHeartbeats 1000000 in
theorem zdropF_at (g f t n : Nat) (X : World) (h : IsZ X g f t) (ht : f ≤ 268435457) :
    Calls Tryd.prog 66 #[.pointer (some ⟨g, 0, none⟩), .int .i64 (n : Int)] X fun y X' => y = .returned (.tuple #[]) ∧ IsZ X' g (satD (f + n)) t ∧ Below g X X' ∧ ∀ i, i ≠ g → X'.heap[i]? = X.heap[i]? := by
  have HM := hide (more_at f n X ht)
  obtain ⟨c0, c1, f0, f1⟩ := h.cells
  have HR := hide (h.set0 (satD (f + n)))
  have HB := hide (And.intro ((Below.refl g X).setCell (p := ⟨g, 0, none⟩) (Nat.le_refl _) (.int .i64 (satD (f + n) : Int))) (fun (i : Nat) (hi : i ≠ g) => Below.heap_setCell X ⟨g, 0, none⟩ (.int .i64 (satD (f + n) : Int)) i hi))
  generalize satD (f + n) = M at *
  clear h ht c1 f1
  go_enter Tryd.func66, Tryd.ntmps66
  go_wp2_with fail
  refine (unhide HM).mono ?_
  rintro y X' ⟨rfl, rfl⟩
  dsimp only
  clear HM
  go_wp2_with fail
  exact bodyPost_end (v := .tuple #[]) (results_none Tryd.results66 _ _ _) rfl ⟨rfl, unhide HR, unhide HB⟩
set_option maxRecDepth 100000 in
set_option maxHeartbeats 2000000 in
theorem zkeepF_at (g f t n : Nat) (X : World) (h : IsZ X g f t) (hf : f ≤ 268435457) (ht : t ≤ 268435457) :
    Calls Tryd.prog 64 #[.pointer (some ⟨g, 0, none⟩), .int .i64 (n : Int)] X fun y X' => y = .returned (.tuple #[]) ∧ IsZ X' g (satD (f + n)) (satD (t + n)) ∧ Below g X X' ∧ ∀ i, i ≠ g → X'.heap[i]? = X.heap[i]? := by
  have HM := hide fun (Y : World) => more_at f n Y hf
  have HN := hide fun (Y : World) => more_at t n Y ht
  have hz : IsZ X.drew g f t := h
  obtain ⟨c0, c1, f0, f1⟩ := hz.cells
  obtain ⟨_, e1, _, k1⟩ := (hz.set0 (satD (f + n))).cells
  have HS0 := hide (And.intro c0 c1)
  have HR := hide ((hz.set0 (satD (f + n))).set1 (satD (t + n)))
  have HB := hide (And.intro ((((Below.refl g X).drew).setCell (p := ⟨g, 0, none⟩) (Nat.le_refl _) (.int .i64 (satD (f + n) : Int))).setCell (p := ⟨g, 1, none⟩) (Nat.le_refl _) (.int .i64 (satD (t + n) : Int))) (fun (i : Nat) (hi : i ≠ g) => show _ = X.heap[i]? from (Below.heap_setCell (X.drew.setCell ⟨g, 0, none⟩ (.int .i64 (satD (f + n) : Int))) ⟨g, 1, none⟩ (.int .i64 (satD (t + n) : Int)) i hi).trans ((Below.heap_setCell X.drew ⟨g, 0, none⟩ (.int .i64 (satD (f + n) : Int)) i hi).trans rfl)))
  generalize satD (f + n) = M at *
  generalize satD (t + n) = M' at *
  clear h hf ht hz
  go_enter Tryd.func64, Tryd.ntmps64
  go_wp2_with fail
  refine regionL (S := fun w' => w'.cell? ⟨g, 0, none⟩ = some (.int .i64 (f : Int)) ∧ w'.cell? ⟨g, 1, none⟩ = some (.int .i64 (t : Int))) (fun i => i == 1 || i == 16 || i == 17 || i == 18 || i == 19) (by kernel_rfl) ?_
  generalize X.drew = Z at *
  refine anyL_free (i := 1) (v := ?vzkf0) rfl (by kernel_rfl) (by kernel_rfl) (by kernel_rfl) rfl (fun _ _ _ h => h) (Or.inl ⟨by rfl, ?hzkf0⟩) ?_
  case hzkf0 => (intro w hSw; go_simp) <;> with_reducible rfl
  simp only [Act.put, List.getElem_toArray, List.getElem_cons_zero, List.getElem_cons_succ, List.setIfInBounds_toArray, List.set_cons_zero, List.set_cons_succ]
  refine anyL_take2 (i := 0) (v := ?vzk1) rfl (by kernel_rfl) (by kernel_rfl) (by kernel_rfl) (by kernel_rfl) (fun _ _ _ h => h) (Or.inl ⟨by rfl, ?hzk1⟩) (unhide HS0) ?_
  case hzk1 => (intro w hSw; (try dsimp only at hSw); go_simp) <;> with_reducible rfl
  simp only [Act.put, List.getElem_toArray, List.getElem_cons_zero, List.setIfInBounds_toArray, List.set_cons_zero, List.set_cons_succ]
  refine anyL_take2 (i := 2) (v := ?vzk2) rfl (by kernel_rfl) (by kernel_rfl) (by kernel_rfl) (by kernel_rfl) (fun _ _ _ h => h) (Or.inl ⟨by rfl, ?hzk2⟩) (unhide HS0) ?_
  case hzk2 => (intro w hSw; (try dsimp only at hSw); go_simp) <;> with_reducible rfl
  simp only [Act.put, List.getElem_toArray, List.getElem_cons_zero, List.getElem_cons_succ, List.setIfInBounds_toArray, List.set_cons_zero, List.set_cons_succ]
  refine anyL_take2 (i := 3) (v := ?vzk3) rfl (by kernel_rfl) (by kernel_rfl) (by kernel_rfl) (by kernel_rfl) (fun _ _ _ h => h) (Or.inl ⟨by rfl, ?hzk3⟩) (unhide HS0) ?_
  case hzk3 => (intro w hSw; (try dsimp only at hSw); go_simp) <;> with_reducible rfl
  simp only [Act.put, List.getElem_toArray, List.getElem_cons_zero, List.getElem_cons_succ, List.setIfInBounds_toArray, List.set_cons_zero, List.set_cons_succ]
  refine anyL_take2 (i := 4) (v := ?vzk4) rfl (by kernel_rfl) (by kernel_rfl) (by kernel_rfl) (by kernel_rfl) (fun _ _ _ h => h) (Or.inl ⟨by rfl, ?hzk4⟩) (unhide HS0) ?_
  case hzk4 => (intro w hSw; (try dsimp only at hSw); go_simp) <;> with_reducible rfl
  simp only [Act.put, List.getElem_toArray, List.getElem_cons_zero, List.getElem_cons_succ, List.setIfInBounds_toArray, List.set_cons_zero, List.set_cons_succ]
  refine anyL_take2 (i := 5) (v := ?vzk5) rfl (by kernel_rfl) (by kernel_rfl) (by kernel_rfl) (by kernel_rfl) (fun _ _ _ h => h) (Or.inl ⟨by rfl, ?hzk5⟩) (unhide HS0) ?_
  case hzk5 => (intro w hSw; (try dsimp only at hSw); go_simp) <;> with_reducible rfl
  simp only [Act.put, List.getElem_toArray, List.getElem_cons_zero, List.getElem_cons_succ, List.setIfInBounds_toArray, List.set_cons_zero, List.set_cons_succ]
  refine anyL_take2 (i := 6) (v := ?vzk6) rfl (by kernel_rfl) (by kernel_rfl) (by kernel_rfl) (by kernel_rfl) (fun _ _ _ h => h) (Or.inl ⟨by rfl, ?hzk6⟩) (unhide HS0) ?_
  case hzk6 => (intro w hSw; (try dsimp only at hSw); go_simp) <;> with_reducible rfl
  simp only [Act.put, List.getElem_toArray, List.getElem_cons_zero, List.getElem_cons_succ, List.setIfInBounds_toArray, List.set_cons_zero, List.set_cons_succ]
  refine anyL_take2 (i := 8) (v := ?vzk7) rfl (by kernel_rfl) (by kernel_rfl) (by kernel_rfl) (by kernel_rfl) (fun _ _ _ h => h) (Or.inl ⟨by rfl, ?hzk7⟩) (unhide HS0) ?_
  case hzk7 => (intro w hSw; (try dsimp only at hSw); go_simp) <;> with_reducible rfl
  simp only [Act.put, List.getElem_toArray, List.getElem_cons_zero, List.getElem_cons_succ, List.setIfInBounds_toArray, List.set_cons_zero, List.set_cons_succ]
  refine anyL_take2 (i := 9) (v := ?vzk8) rfl (by kernel_rfl) (by kernel_rfl) (by kernel_rfl) (by kernel_rfl) (fun _ _ _ h => h) (Or.inl ⟨by rfl, ?hzk8⟩) (unhide HS0) ?_
  case hzk8 => (intro w hSw; (try dsimp only at hSw); go_simp) <;> with_reducible rfl
  simp only [Act.put, List.getElem_toArray, List.getElem_cons_zero, List.getElem_cons_succ, List.setIfInBounds_toArray, List.set_cons_zero, List.set_cons_succ]
  refine anyL_take2 (i := 10) (v := ?vzk9) rfl (by kernel_rfl) (by kernel_rfl) (by kernel_rfl) (by kernel_rfl) (fun _ _ _ h => h) (Or.inl ⟨by rfl, ?hzk9⟩) (unhide HS0) ?_
  case hzk9 => (intro w hSw; (try dsimp only at hSw); go_simp) <;> with_reducible rfl
  simp only [Act.put, List.getElem_toArray, List.getElem_cons_zero, List.getElem_cons_succ, List.setIfInBounds_toArray, List.set_cons_zero, List.set_cons_succ]
  refine anyL_take2 (i := 11) (v := ?vzk10) rfl (by kernel_rfl) (by kernel_rfl) (by kernel_rfl) (by kernel_rfl) (fun _ _ _ h => h) (Or.inl ⟨by rfl, ?hzk10⟩) (unhide HS0) ?_
  case hzk10 => (intro w hSw; (try dsimp only at hSw); go_simp) <;> with_reducible rfl
  simp only [Act.put, List.getElem_toArray, List.getElem_cons_zero, List.getElem_cons_succ, List.setIfInBounds_toArray, List.set_cons_zero, List.set_cons_succ]
  refine anyL_take2 (i := 12) (v := ?vzk11) rfl (by kernel_rfl) (by kernel_rfl) (by kernel_rfl) (by kernel_rfl) (fun _ _ _ h => h) (Or.inl ⟨by rfl, ?hzk11⟩) (unhide HS0) ?_
  case hzk11 => (intro w hSw; (try dsimp only at hSw); go_simp) <;> with_reducible rfl
  simp only [Act.put, List.getElem_toArray, List.getElem_cons_zero, List.getElem_cons_succ, List.setIfInBounds_toArray, List.set_cons_zero, List.set_cons_succ]
  refine anyL_ready (rs := [7]) (by kernel_rfl) (by simp) ?_
  refine AllL.cons rfl (fun K hK => ?_) AllL.nil
  go_simp
  refine (unhide HM _).mono ?_
  rintro e w' ⟨rfl, rfl⟩
  refine unhide hK _ _ (fun _ => unhide HS0) ?_
  clear hK K
  refine anyL_ready (rs := [13]) (by kernel_rfl) (by simp) ?_
  refine AllL.cons rfl (fun K hK => ?_) AllL.nil
  go_simp
  refine (unhide HN _).mono ?_
  rintro e w' ⟨rfl, rfl⟩
  refine unhide hK _ _ (fun _ => unhide HS0) ?_
  clear hK K
  refine anyL_take2 (i := 14) (v := ?vzk12) rfl (by kernel_rfl) (by kernel_rfl) (by kernel_rfl) (by kernel_rfl) (fun _ _ _ h => h) (Or.inl ⟨by rfl, ?hzk12⟩) (unhide HS0) ?_
  case hzk12 => (intro w hSw; (try dsimp only at hSw); go_simp) <;> with_reducible rfl
  simp only [Act.put, List.getElem_toArray, List.getElem_cons_zero, List.getElem_cons_succ, List.setIfInBounds_toArray, List.set_cons_zero, List.set_cons_succ]
  refine anyL_take2 (i := 15) (v := ?vzk13) rfl (by kernel_rfl) (by kernel_rfl) (by kernel_rfl) (by kernel_rfl) (fun _ _ _ h => h) (Or.inl ⟨by rfl, ?hzk13⟩) (unhide HS0) ?_
  case hzk13 => (intro w hSw; (try dsimp only at hSw); go_simp) <;> with_reducible rfl
  simp only [Act.put, List.getElem_toArray, List.getElem_cons_zero, List.getElem_cons_succ, List.setIfInBounds_toArray, List.set_cons_zero, List.set_cons_succ]
  refine anyL_ready (rs := [16]) (by kernel_rfl) (by simp) ?_
  refine AllL.cons rfl (fun K hK => ?_) AllL.nil
  go_simp
  refine unhide hK _ _ (fun h => by cases h) ?_
  clear hK K
  refine anyL_free (i := 17) (v := ?vzkf14) rfl (by kernel_rfl) (by kernel_rfl) (by kernel_rfl) rfl (fun _ _ _ h => h) (Or.inl ⟨by rfl, ?hzkf14⟩) ?_
  case hzkf14 => (intro w hSw; go_simp) <;> with_reducible rfl
  simp only [Act.put, List.getElem_toArray, List.getElem_cons_zero, List.getElem_cons_succ, List.setIfInBounds_toArray, List.set_cons_zero, List.set_cons_succ]
  refine anyL_free (i := 18) (v := ?vzkf15) rfl (by kernel_rfl) (by kernel_rfl) (by kernel_rfl) rfl (fun _ _ _ h => h) (Or.inl ⟨by rfl, ?hzkf15⟩) ?_
  case hzkf15 => (intro w hSw; go_simp) <;> with_reducible rfl
  simp only [Act.put, List.getElem_toArray, List.getElem_cons_zero, List.getElem_cons_succ, List.setIfInBounds_toArray, List.set_cons_zero, List.set_cons_succ]
  refine anyL_ready (rs := [19]) (by kernel_rfl) (by simp) ?_
  refine AllL.cons rfl (fun K hK => ?_) AllL.nil
  go_simp
  refine unhide hK _ _ (fun h => by cases h) ?_
  clear hK K
  refine anyL_done (by kernel_rfl) ?_ _
  exact bodyPost_end (v := .tuple #[]) (results_none Tryd.results64 _ _ _) rfl ⟨rfl, unhide HR, unhide HB⟩

/-- where the next change finds the old text: behind the last one -/
def lstC : Int → List Dop → Int
  | p, [] => p
  | _, c :: r => lstC c.n r
/-- changes as operations -/
def opC : Int → List Dop → List Dop
  | _, [] => []
  | p, c :: r => ⟨1, c.k - p, []⟩ :: ⟨2, 0, c.t⟩ :: ⟨3, c.n - c.k, []⟩ :: opC c.n r
def opsC (n : Int) (cs : List Dop) : List Dop := opC 0 cs ++ [⟨1, n - lstC 0 cs, []⟩]
theorem opC_len : ∀ (p : Int) (cs : List Dop), (opC p cs).length = cs.length * 3
  | _, [] => rfl
  | p, c :: r => by simp only [opC, List.length_cons, opC_len c.n r]; omega
theorem opsC_len (n : Int) (cs : List Dop) : (opsC n cs).length = cs.length * 3 + 1 := by simp [opsC, opC_len]
theorem opC_get : ∀ (p : Int) (cs : List Dop) (k : Nat), k < cs.length → (opC p cs)[k * 3]? = some ⟨1, (cs.getD k opZ).k - lstC p (cs.take k), []⟩ ∧ (opC p cs)[k * 3 + 1]? = some ⟨2, 0, (cs.getD k opZ).t⟩ ∧ (opC p cs)[k * 3 + 2]? = some ⟨3, (cs.getD k opZ).n - (cs.getD k opZ).k, []⟩
  | _, [], k, hk => absurd hk (by simp)
  | p, c :: r, 0, _ => by simp [opC, lstC]
  | p, c :: r, k + 1, hk => by
    have ih := opC_get c.n r k (by simpa using hk)
    rw [show (k + 1) * 3 = k * 3 + 3 by omega]
    simpa [opC, lstC] using ih
theorem opsC_get (n : Int) (cs : List Dop) {k : Nat} (hk : k < cs.length) : (opsC n cs).getD (k * 3) opZ = ⟨1, (cs.getD k opZ).k - lstC 0 (cs.take k), []⟩ ∧ (opsC n cs).getD (k * 3 + 1) opZ = ⟨2, 0, (cs.getD k opZ).t⟩ ∧ (opsC n cs).getD (k * 3 + 2) opZ = ⟨3, (cs.getD k opZ).n - (cs.getD k opZ).k, []⟩ := by
  obtain ⟨h1, h2, h3⟩ := opC_get 0 cs k hk
  have hl := opC_len 0 cs
  unfold opsC List.getD
  rw [List.getElem?_append_left (by omega), List.getElem?_append_left (by omega), List.getElem?_append_left (by omega), h1, h2, h3]
  exact ⟨rfl, rfl, rfl⟩
theorem opsC_last (n : Int) (cs : List Dop) : (opsC n cs).getD (cs.length * 3) opZ = ⟨1, n - lstC 0 cs, []⟩ := by
  have hl := opC_len 0 cs
  unfold opsC List.getD
  rw [List.getElem?_append_right (by omega), hl]
  simp
theorem lstC_take : ∀ (p : Int) (cs : List Dop) (k : Nat), k < cs.length → lstC p (cs.take (k + 1)) = (cs.getD k opZ).n
  | _, [], k, hk => absurd hk (by simp)
  | p, c :: r, 0, _ => by simp [lstC]
  | p, c :: r, k + 1, hk => by
    have ih := lstC_take c.n r k (by simpa using hk)
    simpa [lstC] using ih
/-- the arithmetic of eachChange stays within bounds -/
structure OkC (n : Int) (cs : List Dop) : Prop where
  z : 0 ≤ n ∧ n ≤ 268435456
  c : ∀ k, k < cs.length → 0 ≤ lstC 0 (cs.take k) ∧ lstC 0 (cs.take k) ≤ (cs.getD k opZ).k ∧ (cs.getD k opZ).k ≤ (cs.getD k opZ).n ∧ (cs.getD k opZ).n ≤ n
  l : 0 ≤ lstC 0 cs ∧ lstC 0 cs ≤ n
set_option maxRecDepth 100000 in
set_option maxHeartbeats 4000000 in
theorem eachC_at (a : Option Addr) (c B : Nat) (n : Int) (cs : List Dop) (w : World) (fk fp fd : Nat) (rv : Value) (I : Nat → World → Prop) (F : Nat → Nat → Array Value → World → Prop)
    (ek : ∀ args w, (callFunc fk args).run Tryd.prog w = .ok (.enter fk args) w) (ep : ∀ args w, (callFunc fp args).run Tryd.prog w = .ok (.enter fp args) w) (ed : ∀ args w, (callFunc fd args).run Tryd.prog w = .ok (.enter fd args) w)
    (hd : ∀ X, Below B w X → IsO X a cs) (hI : ∀ k X, I k X → Below B w X) (hA : ∀ k X (q : Array Value), I k X → F k X.heap.size q (X.alloc (.cells q 71))) (hF : ∀ k g q X, F k g q X → Cls X g 71 q ∧ I k X) (h0 : I 0 w) (hl : cs.length ≤ 4398046511104) (ok : OkC n cs)
    (hk : ∀ k g q X, k < (opsC n cs).length → ((opsC n cs).getD k opZ).k = 1 → F k g q X → Calls Tryd.prog fk #[rv, .int .i64 ((opsC n cs).getD k opZ).n] X fun y X' => y = .returned (.tuple #[]) ∧ F (k + 1) g q X')
    (hp : ∀ k g q X, k < (opsC n cs).length → ((opsC n cs).getD k opZ).k = 2 → F k g q X → Calls Tryd.prog fp #[rv, .string (strOfNums ((opsC n cs).getD k opZ).t)] X fun y X' => y = .returned (.tuple #[]) ∧ F (k + 1) g q X')
    (hq : ∀ k g q X, k < (opsC n cs).length → ((opsC n cs).getD k opZ).k = 3 → F k g q X → Calls Tryd.prog fd #[rv, .int .i64 ((opsC n cs).getD k opZ).n] X fun y X' => y = .returned (.tuple #[]) ∧ F (k + 1) g q X')
    (he : ∀ k X, k < (opsC n cs).length → ((opsC n cs).getD k opZ).k = 1 → I k X → Calls Tryd.prog fk #[rv, .int .i64 ((opsC n cs).getD k opZ).n] X fun y X' => y = .returned (.tuple #[]) ∧ I (k + 1) X') :
    Calls Tryd.prog 63 #[.int .i64 n, .slice a cs.length c, .func (.func fk) #[rv] #[], .func (.func fp) #[rv] #[], .func (.func fd) #[rv] #[]] w fun y w' => y = .returned (.tuple #[]) ∧ I (cs.length * 3 + 1) w' := by
  have HO := hide hd
  have HI := hide hI
  have HAl := hide hA
  have HFF := hide hF
  have HL := opsC_len n cs
  have HK : Hid (∀ k, k < cs.length → (∀ g q X, F (k * 3) g q X → Calls Tryd.prog fk #[rv, .int .i64 ((cs.getD k opZ).k - lstC 0 (cs.take k))] X fun y X' => y = .returned (.tuple #[]) ∧ F (k * 3 + 1) g q X') ∧ (∀ g q X, F (k * 3 + 1) g q X → Calls Tryd.prog fp #[rv, .string (strOfNums (cs.getD k opZ).t)] X fun y X' => y = .returned (.tuple #[]) ∧ F (k * 3 + 2) g q X') ∧ (∀ g q X, F (k * 3 + 2) g q X → Calls Tryd.prog fd #[rv, .int .i64 ((cs.getD k opZ).n - (cs.getD k opZ).k)] X fun y X' => y = .returned (.tuple #[]) ∧ F ((k + 1) * 3) g q X')) := hide fun k hlt => by
    obtain ⟨h1, h2, h3⟩ := opsC_get n cs hlt
    refine ⟨fun g q X hX => ?_, fun g q X hX => ?_, fun g q X hX => ?_⟩
    · have := hk (k * 3) g q X (by omega) (by rw [h1]) hX
      rw [h1] at this; exact this
    · have := hp (k * 3 + 1) g q X (by omega) (by rw [h2]) hX
      rw [h2] at this; exact this
    · have := hq (k * 3 + 2) g q X (by omega) (by rw [h3]) hX
      rw [h3] at this
      rw [show (k + 1) * 3 = k * 3 + 2 + 1 by omega]
      exact this
  have HE : Hid (∀ X, I (cs.length * 3) X → Calls Tryd.prog fk #[rv, .int .i64 (n - lstC 0 cs)] X fun y X' => y = .returned (.tuple #[]) ∧ I (cs.length * 3 + 1) X') := hide fun X hX => by
    have h1 := opsC_last n cs
    have := he (cs.length * 3) X (by omega) (by rw [h1]) hX
    rw [h1] at this; exact this
  have HW : Hid (∀ k, k < cs.length → wrap64 ((cs.getD k opZ).k - lstC 0 (cs.take k)) = (cs.getD k opZ).k - lstC 0 (cs.take k) ∧ wrap64 ((cs.getD k opZ).n - (cs.getD k opZ).k) = (cs.getD k opZ).n - (cs.getD k opZ).k) := hide fun k hlt => by
    have h1 := ok.z
    obtain ⟨h2, h3, h4, h5⟩ := ok.c k hlt
    exact ⟨wrapD _ (by omega) (by omega), wrapD _ (by omega) (by omega)⟩
  have e9 : wrap64 (n - lstC 0 cs) = n - lstC 0 cs := by have h1 := ok.z; have h2 := ok.l; exact wrapD _ (by omega) (by omega)
  have H0 := hide h0
  clear hd hI hA hF hk hp hq he h0 HL ok
  go_enter Tryd.func63, Tryd.ntmps63
  go_wp2_with fail
  go_loopw [10, 12, 15] (fun v10 v12 v15 wx => (∃ z, v12 = z) ∧ (∃ k : Nat, v15 = .int .i64 (k : Int) ∧ v10 = .int .i64 (lstC 0 (cs.take k)) ∧ k ≤ cs.length ∧ Hid (I (k * 3) wx))) (fun _ _ v15 _ => cs.length - (intOf v15).toNat)
  case atStart => exact ⟨⟨_, rfl⟩, ⟨0, rfl, rfl, Nat.zero_le _, H0⟩⟩
  case round =>
    clear H0
    obtain ⟨⟨z1, rfl⟩, ⟨k, rfl, rfl, hk, HB⟩⟩ := hrel
    by_cases hlt : k < cs.length
    · have t1 : decide ((k : Int) < (cs.length : Int)) = true := decide_eq_true (by omega)
      obtain ⟨g, off, rfl, hg, c0, c1, c2⟩ := (unhide HO wr (unhide HI _ wr (unhide HB))).three hlt
      obtain ⟨hK1, hP1, hQ1⟩ := unhide HK k hlt
      have HK1 := hide hK1
      have HP1 := hide hP1
      have HQ1 := hide hQ1
      obtain ⟨w1, w2⟩ := unhide HW k hlt
      have HT := hide (lstC_take 0 cs k hlt)
      clear hK1 hP1 hQ1 HK HW e9
      generalize cs.getD k opZ = x at *
      obtain ⟨xk, xn, xt⟩ := x
      dsimp only at c0 c1 c2 HK1 HP1 HQ1 w1 w2 HT
      generalize lstC 0 (cs.take k) = p at *
      generalize hM1 : xk - p = M1 at *
      generalize hM2 : xn - xk = M2 at *
      obtain ⟨d0, d1, d2⟩ := three_nwD wr (.int .i64 xk) (.int .i64 xn) (.string (strOfNums xt)) (t := 71)
      have HA := hide (unhide HAl _ wr #[.int .i64 xk, .int .i64 xn, .string (strOfNums xt)] (unhide HB))
      generalize strOfNums xt = st at *
      clear HB
      go_upto_region 4 with fail
      clear c0 c1 c2 d1 d2
      have HC := hide (unhide HK1 _ _ _ (unhide HA))
      clear HA HK1
      generalize wr.alloc (.cells #[.int .i64 xk, .int .i64 xn, .string st] 71) = v0 at *
      generalize wr.heap.size = gb at *
      go_wp2_with fail
      try rw [w1]
      refine (unhide HC).mono ?_
      rintro y v1 ⟨rfl, hi1⟩
      dsimp only
      obtain ⟨k1, _⟩ := unhide HFF _ _ _ _ hi1
      have f2 : v1.cell? ⟨gb, 2, none⟩ = some (.string st) := k1.cell 2
      have HC2 := hide (unhide HP1 _ _ _ hi1)
      clear HC hi1 HP1 k1 d0
      go_wp2_with fail
      refine (unhide HC2).mono ?_
      rintro y v2 ⟨rfl, hi1⟩
      dsimp only
      obtain ⟨k1, _⟩ := unhide HFF _ _ _ _ hi1
      have f0 : v2.cell? ⟨gb, 0, none⟩ = some (.int .i64 xk) := k1.cell 0
      have f1 : v2.cell? ⟨gb, 1, none⟩ = some (.int .i64 xn) := k1.cell 1
      have HC3 := hide (unhide HQ1 _ _ _ hi1)
      clear HC2 hi1 HQ1 k1 f2
      go_wp2_with fail
      try rw [w2]
      refine (unhide HC3).mono ?_
      rintro y v3 ⟨rfl, hi1⟩
      dsimp only
      obtain ⟨k1, hj⟩ := unhide HFF _ _ _ _ hi1
      have f1 : v3.cell? ⟨gb, 1, none⟩ = some (.int .i64 xn) := k1.cell 1
      have HN := hide hj
      clear HC3 hi1 k1 hj f0 HFF
      go_wp2_with fail
      go_roundw
      case rel => exact ⟨⟨_, rfl⟩, ⟨k + 1, by go_num, by rw [unhide HT], hlt, HN⟩⟩
      case measure => simp [intOf]; omega
    · obtain rfl : k = cs.length := by omega
      have t1 : decide ((cs.length : Int) < (cs.length : Int)) = false := decide_eq_false (by omega)
      have HE1 := hide (unhide HE wr (unhide HB))
      clear hk HK HW HE HB HAl HFF HO HI
      rw [List.take_length]
      generalize hM : n - lstC 0 cs = M at *
      generalize lstC 0 cs = p at *
      go_wp2_with fail
      try rw [e9]
      refine (unhide HE1).mono ?_
      rintro y v3 ⟨rfl, hi1⟩
      dsimp only
      have HN := hide hi1
      clear HE1 hi1
      go_wp2_with fail
      exact bodyPost_end (v := .tuple #[]) (results_none Tryd.results63 _ _ _) rfl ⟨rfl, unhide HN⟩

end Go.Proofs.YtecfojkaoibldaaDoor
end

section
namespace Go.Proofs.YtecfojkaoibldaaDoor
open Go.ChangeShapes Go.WideShapes Go.ChangeAt Go.RowKit
attribute [local go_sem] Oper.semAt_some

/-- append(Delta{}, d...) -/
theorem copy_op (w : World) (a0 : Option Addr) (cap : Nat) (d : List Dop) (ty : TypeId) (h : IsO w a0 d) (hz : d = [] ∨ ∃ a, a0 = some a) (hb : d.length * 32 ≤ 140737488355328) :
    ∃ v' w', (Builtin.append_ #[32, 32] ty #[.slice (some ⟨w.heap.size, 0, none⟩) 0 0, .slice a0 d.length cap]).run Tryd.prog (w.alloc (.cells #[] 38)) = .ok v' w' ∧
      w'.ownsRow w.heap.size 38 3 v' d.length (opsV d) ∧ Below w.heap.size w w' := by
  obtain ⟨i, hi, hzz, hs, hby⟩ := info_op
  have hb0 : Below w.heap.size w (w.alloc (.cells #[] 38)) := (Below.refl _ _).alloc (Nat.le_refl _) _
  have hown : (w.alloc (.cells #[] 38)).ownsRow w.heap.size 38 3 (.slice (some ⟨w.heap.size, 0, none⟩) 0 0) 0 [] := World.ownsRow_made w #[] 0 (Nat.le_refl _) (Nat.zero_le _) rfl
  have h' := h.below hb0 (Nat.le_refl _)
  by_cases hd : d = []
  · subst hd
    refine ⟨.slice (some ⟨w.heap.size, 0, none⟩) 0 0, _, ?_, hown, hb0⟩
    have hsrc : Src Tryd.prog i.size 32 (.slice a0 0 cap) 0 [] (w.alloc (.cells #[] 38)) := by
      cases a0 with
      | none => exact Src.ofNil _ Tryd.underlying32 cap
      | some x => exact Src.ofSlice _ Tryd.underlying32 x 0 cap [] (by simp) (fun j u h => by simp at h) (fun u h => by cases h)
    exact run_append_room_src (P := Tryd.prog) (w.alloc (.cells #[] 38)) 32 32 ty 38 i Tryd.underlying32 hi w.heap.size 0 0 0 (.slice a0 0 cap) 0 [] hsrc (Nat.le_refl _) (fun j hj => absurd hj (Nat.not_lt_zero _)) (fun j hj => absurd hj (Nat.not_lt_zero _))
  · rcases h' with h' | ⟨g, off, rfl, hg, hL⟩
    · exact absurd h' hd
    obtain ⟨v', w', hr, ho, hgr, _⟩ := run_append_own (P := Tryd.prog) (w.alloc (.cells #[] 38)) w.heap.size 32 ty 38 i (.agg #[.int .i64 0, .int .i64 0, .string ⟨#[]⟩]) 3 32 Tryd.underlying32 hi hzz hs hby rfl (by decide)
      _ 0 [] hown ⟨g, off, none⟩ d.length cap (opsV d) (opsV_len d)
      (fun j u hj => by
        have hjl : j < (opsV d).length := (List.getElem?_eq_some_iff.1 hj).1
        rw [opsV_len] at hjl
        have hk : j / 3 < d.length := by omega
        have e := opsV_get d (j / 3) (j % 3) hk (by omega)
        rw [show j / 3 * 3 + j % 3 = j by omega, hj] at e
        obtain ⟨c0, c1, c2⟩ := hL (j / 3) hk
        rw [Addr.add_lit]
        have hm : j % 3 = 0 ∨ j % 3 = 1 ∨ j % 3 = 2 := by omega
        rcases hm with hm | hm | hm
        · rw [hm] at e; rw [show off + j = off + j / 3 * 3 by omega]; exact c0.trans e.symm
        · rw [hm] at e; rw [show off + j = off + j / 3 * 3 + 1 by omega]; exact c1.trans e.symm
        · rw [hm] at e; rw [show off + j = off + j / 3 * 3 + 2 by omega]; exact c2.trans e.symm)
      (fun u hu => by obtain ⟨x, _, hx⟩ := List.mem_flatMap.1 hu; exact opL_cell hx) (by unfold maxLen; omega) (by omega) (by simp)
    refine ⟨v', w', hr, ?_, hb0.grown hgr (by simp) (fun k e => by cases e; exact Nat.le_refl _)⟩
    rw [Nat.zero_add, List.nil_append] at ho
    exact ho
theorem getD_memE {d : List Dop} {k : Nat} (hk : k < d.length) : d.getD k opZ ∈ d := by
  rw [List.getD_eq_getElem?_getD, List.getElem?_eq_getElem hk]; exact List.getElem_mem hk
def TbD (o : Dop) : Prop := ∀ x ∈ o.t, 0 ≤ x ∧ x ≤ 255
instance decDop : DecidableEq Dop := fun a b => decidable_of_iff (a.k = b.k ∧ a.n = b.n ∧ a.t = b.t) (by cases a; cases b; simp)
theorem op_neq {x y : Dop} (hx : TbD x) (hy : TbD y) : x = y ∨ (x ≠ y ∧ (¬ x.k = y.k ∨ (x.k = y.k ∧ ¬ x.n = y.n) ∨ (x.k = y.k ∧ x.n = y.n ∧ ¬ (strOfNums x.t).toList = (strOfNums y.t).toList))) := by
  have h := str_beq hx hy
  obtain ⟨a, b, c⟩ := x
  obtain ⟨a', b', c'⟩ := y
  dsimp only at h ⊢
  by_cases h1 : a = a'
  · by_cases h2 : b = b'
    · by_cases h3 : c = c'
      · left; rw [h1, h2, h3]
      · right
        refine ⟨by simp [h1, h2, h3], .inr (.inr ⟨h1, h2, fun e => ?_⟩)⟩
        rw [e, decide_eq_false h3] at h
        simp at h
    · right; exact ⟨by simp [h1, h2], .inr (.inl ⟨h1, h2⟩)⟩
  · right; exact ⟨by simp [h1], .inl h1⟩
theorem take_eqD {d e : List Dop} {k : Nat} (hd : k < d.length) (he : k < e.length) (h : d.take k = e.take k) (hx : d.getD k opZ = e.getD k opZ) : d.take (k + 1) = e.take (k + 1) := by
  rw [List.take_add_one, List.take_add_one, h, List.getElem?_eq_getElem hd, List.getElem?_eq_getElem he]
  rw [List.getD_eq_getElem?_getD, List.getElem?_eq_getElem hd, List.getD_eq_getElem?_getD, List.getElem?_eq_getElem he] at hx
  rw [show d[k] = e[k] from hx]
end Go.Proofs.YtecfojkaoibldaaDoor
end

section
namespace Go.Proofs.YtecfojkaoibldaaDoor
open Go.ChangeShapes Go.WideShapes Go.ChangeAt Go.RowKit
attribute [local go_sem] Oper.semAt_some

theorem rowD_set {W : World} {B g c n s : Nat} {t : TypeId} {xs : List Value} (h : W.ownsRow B t s (.slice (some ⟨g, 0, none⟩) n c) n xs) (j : Nat) (u : Value) : (W.setCell ⟨g, j, none⟩ u).ownsRow B t s (.slice (some ⟨g, 0, none⟩) n c) n (xs.set j u) := by
  have hh := h
  rcases h.2 with ⟨h0, _⟩ | ⟨g', cap', cur, hv, hb, hg, hc, hm, hs, ht⟩
  · cases h0
  · cases hv
    refine ⟨by rw [List.length_set]; exact h.1, Or.inr ⟨g, c, cur.setIfInBounds j u, rfl, hb, ?_, hc, hm, by simpa using hs, ?_⟩⟩
    · have hlt : g < W.heap.size := (Array.getElem?_eq_some_iff.1 hg).1
      simp only [World.setCell, Array.getElem?_modify, if_true, hg, Option.map_some]
      rfl
    · rw [Array.toList_setIfInBounds, List.take_set, ht]
theorem rowD_cell {W : World} {B g c n s : Nat} {t : TypeId} {xs : List Value} (h : W.ownsRow B t s (.slice (some ⟨g, 0, none⟩) n c) n xs) {j : Nat} {u : Value} (hj : xs[j]? = some u) : W.cell? ⟨g, j, none⟩ = some u ∧ W.frozen? ⟨g, j, none⟩ = false := by
  have := World.ownsRow.cells h rfl j u hj
  rw [Addr.add_lit, Nat.zero_add] at this
  refine ⟨this, ?_⟩
  rcases h.2 with ⟨h0, _⟩ | ⟨g', cap', cur, hv, _, hg, _⟩
  · cases h0
  · cases hv; simp [World.frozen?, hg]
theorem opsV_last (d : List Dop) (x : Dop) : (opsV (d ++ [x]))[d.length * 3]? = some (.int .i64 x.k) ∧ (opsV (d ++ [x]))[d.length * 3 + 1]? = some (.int .i64 x.n) ∧ (opsV (d ++ [x]))[d.length * 3 + 2]? = some (.string (strOfNums x.t)) := by
  have hl := opsV_len d
  rw [opsV_app, opsV_one]
  refine ⟨?_, ?_, ?_⟩
  · rw [List.getElem?_append_right (by omega), hl, Nat.sub_self]; rfl
  · rw [List.getElem?_append_right (by omega), hl, show d.length * 3 + 1 - d.length * 3 = 1 by omega]; rfl
  · rw [List.getElem?_append_right (by omega), hl, show d.length * 3 + 2 - d.length * 3 = 2 by omega]; rfl
theorem opsV_set1 (d : List Dop) (x : Dop) (n : Int) : (opsV (d ++ [x])).set (d.length * 3 + 1) (.int .i64 n) = opsV (d ++ [⟨x.k, n, x.t⟩]) := by
  rw [opsV_app, opsV_app, opsV_one, opsV_one, List.set_append_right _ _ (by rw [opsV_len]; omega), opsV_len, show d.length * 3 + 1 - d.length * 3 = 1 by omega]
  rfl
theorem opsV_set2 (d : List Dop) (x : Dop) (t : List Int) : (opsV (d ++ [x])).set (d.length * 3 + 2) (.string (strOfNums t)) = opsV (d ++ [⟨x.k, x.n, t⟩]) := by
  rw [opsV_app, opsV_app, opsV_one, opsV_one, List.set_append_right _ _ (by rw [opsV_len]; omega), opsV_len, show d.length * 3 + 2 - d.length * 3 = 2 by omega]
  rfl
theorem str_appD (a b : List Int) : strOfNums a ++ strOfNums b = strOfNums (a ++ b) := by
  apply ByteArray.ext
  simp [strOfNums]
/-- the operation that add writes behind the others -/
def newD (k n : Int) (t : List Int) : Dop := if k = 2 then ⟨2, 0, t⟩ else ⟨k, n, []⟩
theorem add1_nil (k n : Int) (t : List Int) : add1 [] k n t = [newD k n t] := rfl
theorem add1_other {d : List Dop} {x : Dop} {k n : Int} {t : List Int} (h : ¬ x.k = k) : add1 (d ++ [x]) k n t = d ++ [x] ++ [newD k n t] := by
  unfold add1
  simp only [List.getLast?_append, List.getLast?_singleton, Option.some_or, if_neg h]
  rfl
theorem add1_same {d : List Dop} {x : Dop} {k n : Int} {t : List Int} (h : x.k = k) : add1 (d ++ [x]) k n t = d ++ [⟨x.k, x.n + n, x.t ++ t⟩] := by
  unfold add1
  simp only [List.getLast?_append, List.getLast?_singleton, Option.some_or, if_pos h, List.dropLast_concat]
/-- nothing to add -/
def noD (k n : Int) (t : List Int) : Prop := (k = 2 ∧ t = []) ∨ (¬ k = 2 ∧ n = 0)
theorem no_tests {k n : Int} {t : List Int} (h : ¬ noD k n t) : ((k == 2) = true ∧ (k != 2) = false ∧ t.isEmpty = false) ∨ ((k == 2) = false ∧ (k != 2) = true ∧ (n == 0) = false) := by
  unfold noD at h
  by_cases hk : k = 2
  · left
    refine ⟨by simp [hk], by simp [hk], ?_⟩
    cases t with
    | nil => exact absurd (.inl ⟨hk, rfl⟩) h
    | cons a r => rfl
  · right
    refine ⟨by simp [hk], by simp [hk], ?_⟩
    have : ¬ n = 0 := fun hn => h (.inr ⟨hk, hn⟩)
    simpa using this
theorem rowD_some {X : World} {B s n : Nat} {t : TypeId} {v : Value} {xs : List Value} (h : X.ownsRow B t s v n xs) (hn : 0 < n) : ∃ g c, v = .slice (some ⟨g, 0, none⟩) n c ∧ B ≤ g := by
  rcases h.2 with ⟨_, h2⟩ | ⟨g, cap, cur, rfl, h3, _⟩
  · omega
  · exact ⟨g, cap, rfl, h3⟩
theorem last_arith {m : Nat} (hm : m ≤ 1073741824) : wrap64 (((m + 1 : Nat) : Int) - 1) = (m : Int) ∧ wrap64 ((m : Int) + 1 - 1) = (m : Int) ∧ wrap64 (m : Int) = (m : Int) ∧ decide ((m : Int) ≥ 0) = true ∧ decide (0 ≤ (m : Int)) = true ∧ (m : Int) < ((m + 1 : Nat) : Int) :=
  ⟨by rw [wrapD _ (by omega) (by omega)]; omega, by rw [wrapD _ (by omega) (by omega)]; omega, wrapD _ (by omega) (by omega), decide_eq_true (by omega), decide_eq_true (by omega), by omega⟩
theorem list_snoc {d : List Dop} (h : d ≠ []) : ∃ e x, d = e ++ [x] := ⟨d.dropLast, d.getLast h, (List.dropLast_concat_getLast h).symm⟩
end Go.Proofs.YtecfojkaoibldaaDoor
end

section
namespace Go.Proofs.YtecfojkaoibldaaDoor
open Go.ChangeShapes Go.WideShapes Go.ChangeAt Go.RowKit
attribute [local go_sem] Oper.semAt_some

theorem IsO.pre {W : World} {a : Option Addr} {d e : List Dop} (h : IsO W a (d ++ e)) : IsO W a d := by
  rcases h with h | ⟨g, off, rfl, hg, hc⟩
  · exact Or.inl (List.append_eq_nil_iff.1 h).1
  · refine Or.inr ⟨g, off, rfl, hg, fun k hk => ?_⟩
    have := hc k (by rw [List.length_append]; omega)
    rwa [show (d ++ e).getD k opZ = d.getD k opZ by simp [List.getD_eq_getElem?_getD, List.getElem?_append_left hk]] at this
theorem IsO.some {W : World} {a : Option Addr} {d : List Dop} (h : IsO W a d) : d = [] ∨ ∃ q, a = some q := by
  rcases h with h | ⟨g, off, rfl, _⟩
  · exact .inl h
  · exact .inr ⟨_, rfl⟩
/-- what may be added to -/
structure AdOk (d : List Dop) (n : Int) (t : List Int) : Prop where
  c : Can d
  l : d.length ≤ 1073741823
  xn : ∀ x ∈ d, x.n ≤ 2305843009213693952
  xt : ∀ x ∈ d, x.t.length ≤ 2305843009213693952
  nn : 0 ≤ n ∧ n ≤ 2305843009213693952
  tt : t.length ≤ 2305843009213693952
theorem pln_n {o : Dop} (h : Pln o) : 0 ≤ o.n := by rcases h with ⟨_, h, _⟩ | ⟨_, h, _⟩ <;> omega
theorem add1_len (d : List Dop) (k n : Int) (t : List Int) : (add1 d k n t).length ≤ d.length + 1 := by
  by_cases hd : d = []
  · subst hd; rw [add1_nil]; simp
  · obtain ⟨e, x, rfl⟩ := list_snoc hd
    by_cases hk : x.k = k
    · rw [add1_same hk]; simp
    · rw [add1_other hk]; simp
theorem no_yes {k n : Int} {t : List Int} (h : noD k n t) : ((k == 2) = true ∧ (k != 2) = false ∧ t.isEmpty = true) ∨ ((k == 2) = false ∧ (k != 2) = true ∧ (n == 0) = true) := by
  rcases h with ⟨h1, h2⟩ | ⟨h1, h2⟩
  · left; simp [h1, h2]
  · right; simp [h1, h2]
theorem addD_no {d : List Dop} {k n : Int} {t : List Int} (h : noD k n t) : addD d k n t = d := by unfold addD; unfold noD at h; rw [if_pos h]
theorem addD_one {d : List Dop} {k n : Int} {t : List Int} (h : ¬ noD k n t) (hx : ∀ x, d.getLast? = some x → ¬ (k = 2 ∧ x.k = 3)) : addD d k n t = add1 d k n t := by
  unfold addD
  unfold noD at h
  rw [if_neg h]
  cases hl : d.getLast? with
  | none => rfl
  | some x => simp only [hx x hl, if_false]
theorem addD_put {e : List Dop} {x : Dop} {n : Int} {t : List Int} (h : t ≠ []) (hx : x.k = 3) : addD (e ++ [x]) 2 n t = add1 e 2 0 t ++ [⟨3, x.n, []⟩] := by
  unfold addD
  rw [if_neg (by simp [h])]
  simp [hx]
theorem can_preD {e : List Dop} {x : Dop} (h : Can (e ++ [x])) : Can e := ⟨fun o ho => h.p o (by simp [ho]), (chn_app h.c).1⟩
end Go.Proofs.YtecfojkaoibldaaDoor
end

section
namespace Go.Proofs.YtecfojkaoibldaaDoor
open Go.ChangeShapes Go.WideShapes Go.ChangeAt Go.RowKit
attribute [local go_sem] Oper.semAt_some

theorem kn_cases (o : Dop) : (knB o = true ∧ decide (o.k < 1) = false ∧ decide (o.k > 3) = false ∧ decide (3 < o.k) = false ∧ ((o.k != 2) = false ∨ ((o.k != 2) = true ∧ decide (o.n < 0) = false))) ∨
    (knB o = false ∧ (decide (o.k < 1) = true ∨ (decide (o.k < 1) = false ∧ decide (o.k > 3) = true ∧ decide (3 < o.k) = true) ∨ (decide (o.k < 1) = false ∧ decide (o.k > 3) = false ∧ decide (3 < o.k) = false ∧ (o.k != 2) = true ∧ decide (o.n < 0) = true))) := by
  obtain ⟨k, n, t⟩ := o
  unfold knB
  dsimp only
  by_cases h1 : k < 1
  · right; refine ⟨?_, .inl (decide_eq_true h1)⟩; simp; omega
  by_cases h2 : 3 < k
  · right; refine ⟨?_, .inr (.inl ⟨decide_eq_false h1, decide_eq_true h2, decide_eq_true h2⟩)⟩; simp; omega
  by_cases h3 : k = 2
  · left; subst h3; simp
  by_cases h4 : n < 0
  · right; refine ⟨?_, .inr (.inr ⟨decide_eq_false h1, decide_eq_false h2, decide_eq_false h2, by simpa using h3, decide_eq_true h4⟩)⟩; simp; omega
  · left; refine ⟨?_, decide_eq_false h1, decide_eq_false h2, decide_eq_false h2, .inr ⟨by simpa using h3, decide_eq_false h4⟩⟩; simp; omega
theorem op_small {d : List Dop} {x : Dop} (h : Can d) (hx : x ∈ d) : x.n ≤ ((dA d).length : Int) ∧ x.t.length ≤ (dA d).length := by
  obtain ⟨a, b, rfl⟩ := List.append_of_mem hx
  have hp := h.p x hx
  have e : (dA (a ++ x :: b)).length = (dA a).length + ((opA x).length + (dA b).length) := by rw [dA_app, dA_cons, List.length_append, List.length_append]
  rw [e]
  rcases hp with ⟨h1 | h1, h2, h3⟩ | ⟨h1, h2, h3⟩
  · have : (opA x).length = x.n.toNat := by simp [opA, h1]
    rw [h3]; simp; omega
  · have : (opA x).length = x.n.toNat := by simp [opA, h1]
    rw [h3]; simp; omega
  · have : (opA x).length = x.t.length := by simp [opA, h1]
    omega
theorem fin_len (u : List Atm) : (dA (feedA b0 u).fin).length = u.length := by
  have := congrArg List.length (feed_atoms u wb0)
  rw [nf_len, nf_len] at this
  exact this.trans rfl
theorem adok_feed {u : List Atm} {n : Int} {t : List Int} (hu : u.length ≤ 1073741000) (hn : 0 ≤ n ∧ n ≤ 2305843009213693952) (ht : t.length ≤ 2305843009213693952) : AdOk (feedA b0 u).fin n t := by
  have hc := can_fin (wb_feed u wb0)
  have hl := fin_len u
  refine ⟨hc, ?_, fun x hx => ?_, fun x hx => ?_, hn, ht⟩
  · have := can_len hc.p; omega
  · have := (op_small hc hx).1; omega
  · have := (op_small hc hx).2; omega
/-- one more operation, as add says and as the builder does -/
theorem add_op {u : List Atm} {x : Dop} (hk : x.k = 1 ∨ x.k = 2 ∨ x.k = 3) (hn : x.k ≠ 2 → 0 ≤ x.n) : addD (feedA b0 u).fin x.k (if x.k = 2 then 0 else x.n) (if x.k = 2 then x.t else []) = (feedA b0 (u ++ opA x)).fin := by
  have hw := wb_feed u wb0
  rw [feedA_app, ← op_atoms]
  rcases hk with h | h | h
  · obtain ⟨m, hm⟩ : ∃ m : Nat, x.n = (m : Int) := ⟨x.n.toNat, by have := hn (by omega); omega⟩
    rw [op_keep h, h, hm]
    simp only [show ¬ ((1 : Int) = 2) by decide, if_false, Int.toNat_natCast]
    exact add_keep hw m
  · rw [op_put h, h]
    simp only [if_true]
    exact add_put hw x.t
  · obtain ⟨m, hm⟩ : ∃ m : Nat, x.n = (m : Int) := ⟨x.n.toNat, by have := hn (by omega); omega⟩
    rw [op_drop h, h, hm]
    simp only [show ¬ ((3 : Int) = 2) by decide, if_false, Int.toNat_natCast]
    exact add_drop hw m
theorem dA_takeS (d : List Dop) {k : Nat} (hk : k < d.length) : dA (d.take (k + 1)) = dA (d.take k) ++ opA (d.getD k opZ) := by
  rw [List.take_add_one, List.getElem?_eq_getElem hk, Option.toList_some, dA_app]
  simp [dA, List.getD_eq_getElem?_getD, List.getElem?_eq_getElem hk]
theorem frD_le (d : List Dop) (k : Nat) : frD (d.take k) ≤ frD d ∧ toD (d.take k) ≤ toD d := by
  have h1 : frD d = frD (d.take k) + frD (d.drop k) := by unfold frD; rw [← List.sum_append, ← List.map_append, List.take_append_drop]
  have h2 : toD d = toD (d.take k) + toD (d.drop k) := by unfold toD; rw [← List.sum_append, ← List.map_append, List.take_append_drop]
  omega
theorem ca_k {f m F : Nat} (hf : f ≤ 268435456) (hm : m ≤ 140737488355328) (h : F = f + m) : wrap64 ((f : Int) + (m : Int)) = (F : Int) ∧ wrap64 ((F : Int) + 0) = (F : Int) ∧ wrap64 (F : Int) = (F : Int) := by
  subst h
  exact ⟨by rw [wrapD _ (by omega) (by omega)]; omega, by rw [wrapD _ (by omega) (by omega)]; omega, wrapD _ (by omega) (by omega)⟩
theorem ca_0 {f : Nat} (hf : f ≤ 268435456) : wrap64 ((f : Int) + 0) = (f : Int) ∧ wrap64 (f : Int) = (f : Int) := ⟨by rw [wrapD _ (by omega) (by omega)]; omega, wrapD _ (by omega) (by omega)⟩
theorem big_t {m : Nat} (h : 268435456 < m) : decide ((m : Int) > 268435456) = true ∧ decide ((268435456 : Int) < (m : Int)) = true ∧ decide (268435456 < m) = true := ⟨decide_eq_true (by omega), decide_eq_true (by omega), decide_eq_true h⟩
theorem big_f {m : Nat} (h : ¬ 268435456 < m) : decide ((m : Int) > 268435456) = false ∧ decide ((268435456 : Int) < (m : Int)) = false ∧ decide (268435456 < m) = false := ⟨decide_eq_false (by omega), decide_eq_false (by omega), decide_eq_false h⟩
/-- the state of the second loop -/
structure CaI (d : List Dop) (k f t : Nat) (L : List Dop) (w : World) (a : Option Addr) (X : World) : Prop where
  ef : f = frD (d.take k)
  et : t = toD (d.take k)
  z : f ≤ 268435456 ∧ t ≤ 268435456
  l : L = (feedA b0 (dA (d.take k))).fin
  o : IsO X a L
  d : Below w.heap.size w X
end Go.Proofs.YtecfojkaoibldaaDoor
end
