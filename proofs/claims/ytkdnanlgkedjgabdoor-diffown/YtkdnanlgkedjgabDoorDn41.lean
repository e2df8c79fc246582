/- Layer 13: what the sizes' methods leave alone; eachChange (written by wip/tools/dmq.py). · Layer 13, the document's: Copy, Same. · Layer 13, the document's: add. · Layer 13, the document's: add whole; Canon. · Layer 13, the document's Canon. · Layer 13: eachChange of the sizes and of a builder; what changes that are checked come to. · Layer 19, plain: what the program's runs are: the same pieces of both, rising, to both ends; what stands between them are the changes. · Layer 19: common: the runs of a longest list that stands in both. -/
import Derived.Test.YtkdnanlgkedjgabDoorDn40
import Derived.Test.YtkdnanlgkedjgabDoorDn37
import Derived.Test.YtkdnanlgkedjgabDoorDn33
import Derived.Test.YtkdnanlgkedjgabDoorDn04
import Derived.Deep.AppendSrc
import Derived.RegionTactic
import Derived.ChangeAlike
import Derived.Test.YtkdnanlgkedjgabDoorDn35
import Derived.Test.YtkdnanlgkedjgabDoorDn27
import Derived.Test.YtkdnanlgkedjgabDoorDn34

section
namespace Go.Proofs.YtkdnanlgkedjgabDoor
open Go.ChangeShapes Go.WideShapes Go.ChangeAt Go.RowKit
attribute [local go_sem] Oper.semAt_some

set_option maxRecDepth 100000 in
set_option maxHeartbeats 1000000 in
theorem zputF_at (g f t n : Nat) (s : ByteArray) (X : World) (h : IsZ X g f t) (ht : t ≤ 268435457) (hs : s.size = n) :
    Calls Tryd.prog 33 #[.pointer (some ⟨g, 0, none⟩), .string s] X fun y X' => y = .returned (.tuple #[]) ∧ IsZ X' g f (satD (t + n)) ∧ Below g X X' ∧ ∀ i, i ≠ g → X'.heap[i]? = X.heap[i]? := by
  have HM := hide (more_at t n X ht)
  obtain ⟨c0, c1, f0, f1⟩ := h.cells
  have HR := hide (h.set1 (satD (t + n)))
  have HB := hide (And.intro ((Below.refl g X).setCell (p := ⟨g, 1, none⟩) (Nat.le_refl _) (.int .i64 (satD (t + n) : Int))) (fun (i : Nat) (hi : i ≠ g) => Below.heap_setCell X ⟨g, 1, none⟩ (.int .i64 (satD (t + n) : Int)) i hi))
  generalize satD (t + n) = M at *
  clear h ht c0 f0
  go_enter Tryd.func33, Tryd.ntmps33
  go_wp2_with fail
  refine (unhide HM).mono ?_
  rintro y X' ⟨rfl, rfl⟩
  dsimp only
  clear HM
  go_wp2_with fail
  exact bodyPost_end (v := .tuple #[]) (results_none Tryd.results33 _ _ _) rfl ⟨rfl, unhide HR, unhide HB⟩
set_option maxRecDepth 100000 in
set_option maxHeartbeats 1000000 in
theorem zdropF_at (g f t n : Nat) (X : World) (h : IsZ X g f t) (ht : f ≤ 268435457) :
    Calls Tryd.prog 34 #[.pointer (some ⟨g, 0, none⟩), .int .i64 (n : Int)] X fun y X' => y = .returned (.tuple #[]) ∧ IsZ X' g (satD (f + n)) t ∧ Below g X X' ∧ ∀ i, i ≠ g → X'.heap[i]? = X.heap[i]? := by
  have HM := hide (more_at f n X ht)
  obtain ⟨c0, c1, f0, f1⟩ := h.cells
  have HR := hide (h.set0 (satD (f + n)))
  have HB := hide (And.intro ((Below.refl g X).setCell (p := ⟨g, 0, none⟩) (Nat.le_refl _) (.int .i64 (satD (f + n) : Int))) (fun (i : Nat) (hi : i ≠ g) => Below.heap_setCell X ⟨g, 0, none⟩ (.int .i64 (satD (f + n) : Int)) i hi))
  generalize satD (f + n) = M at *
  clear h ht c1 f1
  go_enter Tryd.func34, Tryd.ntmps34
  go_wp2_with fail
  refine (unhide HM).mono ?_
  rintro y X' ⟨rfl, rfl⟩
  dsimp only
  clear HM
  go_wp2_with fail
  exact bodyPost_end (v := .tuple #[]) (results_none Tryd.results34 _ _ _) rfl ⟨rfl, unhide HR, unhide HB⟩
set_option maxRecDepth 100000 in
set_option maxHeartbeats 2000000 in
theorem zkeepF_at (g f t n : Nat) (X : World) (h : IsZ X g f t) (hf : f ≤ 268435457) (ht : t ≤ 268435457) :
    Calls Tryd.prog 32 #[.pointer (some ⟨g, 0, none⟩), .int .i64 (n : Int)] X fun y X' => y = .returned (.tuple #[]) ∧ IsZ X' g (satD (f + n)) (satD (t + n)) ∧ Below g X X' ∧ ∀ i, i ≠ g → X'.heap[i]? = X.heap[i]? := by
  have HM := hide fun (Y : World) => more_at f n Y hf
  have HN := hide fun (Y : World) => more_at t n Y ht
  have hz : IsZ X.drew g f t := h
  obtain ⟨c0, c1, f0, f1⟩ := hz.cells
  obtain ⟨_, e1, _, k1⟩ := (hz.set0 (satD (f + n))).cells
  have HS0 := hide (And.intro c0 c1)
  have HR := hide ((hz.set0 (satD (f + n))).set1 (satD (t + n)))
  have HB := hide (And.intro ((((Below.refl g X).drew).setCell (p := ⟨g, 0, none⟩) (Nat.le_refl _) (.int .i64 (satD (f + n) : Int))).setCell (p := ⟨g, 1, none⟩) (Nat.le_refl _) (.int .i64 (satD (t + n) : Int))) (fun (i : Nat) (hi : i ≠ g) => show _ = X.heap[i]? from (Below.heap_setCell (X.drew.setCell ⟨g, 0, none⟩ (.int .i64 (satD (f + n) : Int))) ⟨g, 1, none⟩ (.int .i64 (satD (t + n) : Int)) i hi).trans ((Below.heap_setCell X.drew ⟨g, 0, none⟩ (.int .i64 (satD (f + n) : Int)) i hi).trans rfl)))
  generalize satD (f + n) = M at *
  generalize satD (t + n) = M' at *
  clear h hf ht hz
  go_enter Tryd.func32, Tryd.ntmps32
  go_wp2_with fail
  refine regionL (S := fun w' => w'.cell? ⟨g, 0, none⟩ = some (.int .i64 (f : Int)) ∧ w'.cell? ⟨g, 1, none⟩ = some (.int .i64 (t : Int))) (fun i => i == 1 || i == 16 || i == 17 || i == 18 || i == 19) (by kernel_rfl) ?_
  generalize X.drew = Z at *
  refine anyL_free (i := 1) (v := ?vzkf0) rfl (by kernel_rfl) (by kernel_rfl) (by kernel_rfl) rfl (fun _ _ _ h => h) (Or.inl ⟨by rfl, ?hzkf0⟩) ?_
  case hzkf0 => (intro w hSw; go_simp) <;> with_reducible rfl
  simp only [Act.put, List.getElem_toArray, List.getElem_cons_zero, List.getElem_cons_succ, List.setIfInBounds_toArray, List.set_cons_zero, List.set_cons_succ]
  refine anyL_take2 (i := 0) (v := ?vzk1) rfl (by kernel_rfl) (by kernel_rfl) (by kernel_rfl) (by kernel_rfl) (fun _ _ _ h => h) (Or.inl ⟨by rfl, ?hzk1⟩) (unhide HS0) ?_
  case hzk1 => (intro w hSw; (try dsimp only at hSw); go_simp) <;> with_reducible rfl
  simp only [Act.put, List.getElem_toArray, List.getElem_cons_zero, List.setIfInBounds_toArray, List.set_cons_zero, List.set_cons_succ]
  refine anyL_take2 (i := 2) (v := ?vzk2) rfl (by kernel_rfl) (by kernel_rfl) (by kernel_rfl) (by kernel_rfl) (fun _ _ _ h => h) (Or.inl ⟨by rfl, ?hzk2⟩) (unhide HS0) ?_
  case hzk2 => (intro w hSw; (try dsimp only at hSw); go_simp) <;> with_reducible rfl
  simp only [Act.put, List.getElem_toArray, List.getElem_cons_zero, List.getElem_cons_succ, List.setIfInBounds_toArray, List.set_cons_zero, List.set_cons_succ]
  refine anyL_take2 (i := 3) (v := ?vzk3) rfl (by kernel_rfl) (by kernel_rfl) (by kernel_rfl) (by kernel_rfl) (fun _ _ _ h => h) (Or.inl ⟨by rfl, ?hzk3⟩) (unhide HS0) ?_
  case hzk3 => (intro w hSw; (try dsimp only at hSw); go_simp) <;> with_reducible rfl
  simp only [Act.put, List.getElem_toArray, List.getElem_cons_zero, List.getElem_cons_succ, List.setIfInBounds_toArray, List.set_cons_zero, List.set_cons_succ]
  refine anyL_take2 (i := 4) (v := ?vzk4) rfl (by kernel_rfl) (by kernel_rfl) (by kernel_rfl) (by kernel_rfl) (fun _ _ _ h => h) (Or.inl ⟨by rfl, ?hzk4⟩) (unhide HS0) ?_
  case hzk4 => (intro w hSw; (try dsimp only at hSw); go_simp) <;> with_reducible rfl
  simp only [Act.put, List.getElem_toArray, List.getElem_cons_zero, List.getElem_cons_succ, List.setIfInBounds_toArray, List.set_cons_zero, List.set_cons_succ]
  refine anyL_take2 (i := 5) (v := ?vzk5) rfl (by kernel_rfl) (by kernel_rfl) (by kernel_rfl) (by kernel_rfl) (fun _ _ _ h => h) (Or.inl ⟨by rfl, ?hzk5⟩) (unhide HS0) ?_
  case hzk5 => (intro w hSw; (try dsimp only at hSw); go_simp) <;> with_reducible rfl
  simp only [Act.put, List.getElem_toArray, List.getElem_cons_zero, List.getElem_cons_succ, List.setIfInBounds_toArray, List.set_cons_zero, List.set_cons_succ]
  refine anyL_take2 (i := 6) (v := ?vzk6) rfl (by kernel_rfl) (by kernel_rfl) (by kernel_rfl) (by kernel_rfl) (fun _ _ _ h => h) (Or.inl ⟨by rfl, ?hzk6⟩) (unhide HS0) ?_
  case hzk6 => (intro w hSw; (try dsimp only at hSw); go_simp) <;> with_reducible rfl
  simp only [Act.put, List.getElem_toArray, List.getElem_cons_zero, List.getElem_cons_succ, List.setIfInBounds_toArray, List.set_cons_zero, List.set_cons_succ]
  refine anyL_take2 (i := 8) (v := ?vzk7) rfl (by kernel_rfl) (by kernel_rfl) (by kernel_rfl) (by kernel_rfl) (fun _ _ _ h => h) (Or.inl ⟨by rfl, ?hzk7⟩) (unhide HS0) ?_
  case hzk7 => (intro w hSw; (try dsimp only at hSw); go_simp) <;> with_reducible rfl
  simp only [Act.put, List.getElem_toArray, List.getElem_cons_zero, List.getElem_cons_succ, List.setIfInBounds_toArray, List.set_cons_zero, List.set_cons_succ]
  refine anyL_take2 (i := 9) (v := ?vzk8) rfl (by kernel_rfl) (by kernel_rfl) (by kernel_rfl) (by kernel_rfl) (fun _ _ _ h => h) (Or.inl ⟨by rfl, ?hzk8⟩) (unhide HS0) ?_
  case hzk8 => (intro w hSw; (try dsimp only at hSw); go_simp) <;> with_reducible rfl
  simp only [Act.put, List.getElem_toArray, List.getElem_cons_zero, List.getElem_cons_succ, List.setIfInBounds_toArray, List.set_cons_zero, List.set_cons_succ]
  refine anyL_take2 (i := 10) (v := ?vzk9) rfl (by kernel_rfl) (by kernel_rfl) (by kernel_rfl) (by kernel_rfl) (fun _ _ _ h => h) (Or.inl ⟨by rfl, ?hzk9⟩) (unhide HS0) ?_
  case hzk9 => (intro w hSw; (try dsimp only at hSw); go_simp) <;> with_reducible rfl
  simp only [Act.put, List.getElem_toArray, List.getElem_cons_zero, List.getElem_cons_succ, List.setIfInBounds_toArray, List.set_cons_zero, List.set_cons_succ]
  refine anyL_take2 (i := 11) (v := ?vzk10) rfl (by kernel_rfl) (by kernel_rfl) (by kernel_rfl) (by kernel_rfl) (fun _ _ _ h => h) (Or.inl ⟨by rfl, ?hzk10⟩) (unhide HS0) ?_
  case hzk10 => (intro w hSw; (try dsimp only at hSw); go_simp) <;> with_reducible rfl
  simp only [Act.put, List.getElem_toArray, List.getElem_cons_zero, List.getElem_cons_succ, List.setIfInBounds_toArray, List.set_cons_zero, List.set_cons_succ]
  refine anyL_take2 (i := 12) (v := ?vzk11) rfl (by kernel_rfl) (by kernel_rfl) (by kernel_rfl) (by kernel_rfl) (fun _ _ _ h => h) (Or.inl ⟨by rfl, ?hzk11⟩) (unhide HS0) ?_
  case hzk11 => (intro w hSw; (try dsimp only at hSw); go_simp) <;> with_reducible rfl
  simp only [Act.put, List.getElem_toArray, List.getElem_cons_zero, List.getElem_cons_succ, List.setIfInBounds_toArray, List.set_cons_zero, List.set_cons_succ]
  refine anyL_ready (rs := [7]) (by kernel_rfl) (by simp) ?_
  refine AllL.cons rfl (fun K hK => ?_) AllL.nil
  go_simp
  refine (unhide HM _).mono ?_
  rintro e w' ⟨rfl, rfl⟩
  refine unhide hK _ _ (fun _ => unhide HS0) ?_
  clear hK K
  refine anyL_ready (rs := [13]) (by kernel_rfl) (by simp) ?_
  refine AllL.cons rfl (fun K hK => ?_) AllL.nil
  go_simp
  refine (unhide HN _).mono ?_
  rintro e w' ⟨rfl, rfl⟩
  refine unhide hK _ _ (fun _ => unhide HS0) ?_
  clear hK K
  refine anyL_take2 (i := 14) (v := ?vzk12) rfl (by kernel_rfl) (by kernel_rfl) (by kernel_rfl) (by kernel_rfl) (fun _ _ _ h => h) (Or.inl ⟨by rfl, ?hzk12⟩) (unhide HS0) ?_
  case hzk12 => (intro w hSw; (try dsimp only at hSw); go_simp) <;> with_reducible rfl
  simp only [Act.put, List.getElem_toArray, List.getElem_cons_zero, List.getElem_cons_succ, List.setIfInBounds_toArray, List.set_cons_zero, List.set_cons_succ]
  refine anyL_take2 (i := 15) (v := ?vzk13) rfl (by kernel_rfl) (by kernel_rfl) (by kernel_rfl) (by kernel_rfl) (fun _ _ _ h => h) (Or.inl ⟨by rfl, ?hzk13⟩) (unhide HS0) ?_
  case hzk13 => (intro w hSw; (try dsimp only at hSw); go_simp) <;> with_reducible rfl
  simp only [Act.put, List.getElem_toArray, List.getElem_cons_zero, List.getElem_cons_succ, List.setIfInBounds_toArray, List.set_cons_zero, List.set_cons_succ]
  refine anyL_ready (rs := [16]) (by kernel_rfl) (by simp) ?_
  refine AllL.cons rfl (fun K hK => ?_) AllL.nil
  go_simp
  refine unhide hK _ _ (fun h => by cases h) ?_
  clear hK K
  refine anyL_free (i := 17) (v := ?vzkf14) rfl (by kernel_rfl) (by kernel_rfl) (by kernel_rfl) rfl (fun _ _ _ h => h) (Or.inl ⟨by rfl, ?hzkf14⟩) ?_
  case hzkf14 => (intro w hSw; go_simp) <;> with_reducible rfl
  simp only [Act.put, List.getElem_toArray, List.getElem_cons_zero, List.getElem_cons_succ, List.setIfInBounds_toArray, List.set_cons_zero, List.set_cons_succ]
  refine anyL_free (i := 18) (v := ?vzkf15) rfl (by kernel_rfl) (by kernel_rfl) (by kernel_rfl) rfl (fun _ _ _ h => h) (Or.inl ⟨by rfl, ?hzkf15⟩) ?_
  case hzkf15 => (intro w hSw; go_simp) <;> with_reducible rfl
  simp only [Act.put, List.getElem_toArray, List.getElem_cons_zero, List.getElem_cons_succ, List.setIfInBounds_toArray, List.set_cons_zero, List.set_cons_succ]
  refine anyL_ready (rs := [19]) (by kernel_rfl) (by simp) ?_
  refine AllL.cons rfl (fun K hK => ?_) AllL.nil
  go_simp
  refine unhide hK _ _ (fun h => by cases h) ?_
  clear hK K
  refine anyL_done (by kernel_rfl) ?_ _
  exact bodyPost_end (v := .tuple #[]) (results_none Tryd.results32 _ _ _) rfl ⟨rfl, unhide HR, unhide HB⟩

/-- where the next change finds the old text: behind the last one -/
def lstC : Int → List Dop → Int
  | p, [] => p
  | _, c :: r => lstC c.n r
/-- changes as operations -/
def opC : Int → List Dop → List Dop
  | _, [] => []
  | p, c :: r => ⟨1, c.k - p, []⟩ :: ⟨2, 0, c.t⟩ :: ⟨3, c.n - c.k, []⟩ :: opC c.n r
def opsC (n : Int) (cs : List Dop) : List Dop := opC 0 cs ++ [⟨1, n - lstC 0 cs, []⟩]
theorem opC_len : ∀ (p : Int) (cs : List Dop), (opC p cs).length = cs.length * 3
  | _, [] => rfl
  | p, c :: r => by simp only [opC, List.length_cons, opC_len c.n r]; omega
theorem opsC_len (n : Int) (cs : List Dop) : (opsC n cs).length = cs.length * 3 + 1 := by simp [opsC, opC_len]
theorem opC_get : ∀ (p : Int) (cs : List Dop) (k : Nat), k < cs.length → (opC p cs)[k * 3]? = some ⟨1, (cs.getD k opZ).k - lstC p (cs.take k), []⟩ ∧ (opC p cs)[k * 3 + 1]? = some ⟨2, 0, (cs.getD k opZ).t⟩ ∧ (opC p cs)[k * 3 + 2]? = some ⟨3, (cs.getD k opZ).n - (cs.getD k opZ).k, []⟩
  | _, [], k, hk => absurd hk (by simp)
  | p, c :: r, 0, _ => by simp [opC, lstC]
  | p, c :: r, k + 1, hk => by
    have ih := opC_get c.n r k (by simpa using hk)
    rw [show (k + 1) * 3 = k * 3 + 3 by omega]
    simpa [opC, lstC] using ih
theorem opsC_get (n : Int) (cs : List Dop) {k : Nat} (hk : k < cs.length) : (opsC n cs).getD (k * 3) opZ = ⟨1, (cs.getD k opZ).k - lstC 0 (cs.take k), []⟩ ∧ (opsC n cs).getD (k * 3 + 1) opZ = ⟨2, 0, (cs.getD k opZ).t⟩ ∧ (opsC n cs).getD (k * 3 + 2) opZ = ⟨3, (cs.getD k opZ).n - (cs.getD k opZ).k, []⟩ := by
  obtain ⟨h1, h2, h3⟩ := opC_get 0 cs k hk
  have hl := opC_len 0 cs
  unfold opsC List.getD
  rw [List.getElem?_append_left (by omega), List.getElem?_append_left (by omega), List.getElem?_append_left (by omega), h1, h2, h3]
  exact ⟨rfl, rfl, rfl⟩
theorem opsC_last (n : Int) (cs : List Dop) : (opsC n cs).getD (cs.length * 3) opZ = ⟨1, n - lstC 0 cs, []⟩ := by
  have hl := opC_len 0 cs
  unfold opsC List.getD
  rw [List.getElem?_append_right (by omega), hl]
  simp
theorem lstC_take : ∀ (p : Int) (cs : List Dop) (k : Nat), k < cs.length → lstC p (cs.take (k + 1)) = (cs.getD k opZ).n
  | _, [], k, hk => absurd hk (by simp)
  | p, c :: r, 0, _ => by simp [lstC]
  | p, c :: r, k + 1, hk => by
    have ih := lstC_take c.n r k (by simpa using hk)
    simpa [lstC] using ih
/-- the arithmetic of eachChange stays within bounds -/
structure OkC (n : Int) (cs : List Dop) : Prop where
  z : 0 ≤ n ∧ n ≤ 268435456
  c : ∀ k, k < cs.length → 0 ≤ lstC 0 (cs.take k) ∧ lstC 0 (cs.take k) ≤ (cs.getD k opZ).k ∧ (cs.getD k opZ).k ≤ (cs.getD k opZ).n ∧ (cs.getD k opZ).n ≤ n
  l : 0 ≤ lstC 0 cs ∧ lstC 0 cs ≤ n
set_option maxRecDepth 100000 in
set_option maxHeartbeats 4000000 in
theorem eachC_at (a : Option Addr) (c B : Nat) (n : Int) (cs : List Dop) (w : World) (fk fp fd : Nat) (rv : Value) (I : Nat → World → Prop) (F : Nat → Nat → Array Value → World → Prop)
    (ek : ∀ args w, (callFunc fk args).run Tryd.prog w = .ok (.enter fk args) w) (ep : ∀ args w, (callFunc fp args).run Tryd.prog w = .ok (.enter fp args) w) (ed : ∀ args w, (callFunc fd args).run Tryd.prog w = .ok (.enter fd args) w)
    (hd : ∀ X, Below B w X → IsO X a cs) (hI : ∀ k X, I k X → Below B w X) (hA : ∀ k X (q : Array Value), I k X → F k X.heap.size q (X.alloc (.cells q 57))) (hF : ∀ k g q X, F k g q X → Cls X g 57 q ∧ I k X) (h0 : I 0 w) (hl : cs.length ≤ 4398046511104) (ok : OkC n cs)
    (hk : ∀ k g q X, k < (opsC n cs).length → ((opsC n cs).getD k opZ).k = 1 → F k g q X → Calls Tryd.prog fk #[rv, .int .i64 ((opsC n cs).getD k opZ).n] X fun y X' => y = .returned (.tuple #[]) ∧ F (k + 1) g q X')
    (hp : ∀ k g q X, k < (opsC n cs).length → ((opsC n cs).getD k opZ).k = 2 → F k g q X → Calls Tryd.prog fp #[rv, .string (strOfNums ((opsC n cs).getD k opZ).t)] X fun y X' => y = .returned (.tuple #[]) ∧ F (k + 1) g q X')
    (hq : ∀ k g q X, k < (opsC n cs).length → ((opsC n cs).getD k opZ).k = 3 → F k g q X → Calls Tryd.prog fd #[rv, .int .i64 ((opsC n cs).getD k opZ).n] X fun y X' => y = .returned (.tuple #[]) ∧ F (k + 1) g q X')
    (he : ∀ k X, k < (opsC n cs).length → ((opsC n cs).getD k opZ).k = 1 → I k X → Calls Tryd.prog fk #[rv, .int .i64 ((opsC n cs).getD k opZ).n] X fun y X' => y = .returned (.tuple #[]) ∧ I (k + 1) X') :
    Calls Tryd.prog 63 #[.int .i64 n, .slice a cs.length c, .func (.func fk) #[rv] #[], .func (.func fp) #[rv] #[], .func (.func fd) #[rv] #[]] w fun y w' => y = .returned (.tuple #[]) ∧ I (cs.length * 3 + 1) w' := by
  have HO := hide hd
  have HI := hide hI
  have HAl := hide hA
  have HFF := hide hF
  have HL := opsC_len n cs
  have HK : Hid (∀ k, k < cs.length → (∀ g q X, F (k * 3) g q X → Calls Tryd.prog fk #[rv, .int .i64 ((cs.getD k opZ).k - lstC 0 (cs.take k))] X fun y X' => y = .returned (.tuple #[]) ∧ F (k * 3 + 1) g q X') ∧ (∀ g q X, F (k * 3 + 1) g q X → Calls Tryd.prog fp #[rv, .string (strOfNums (cs.getD k opZ).t)] X fun y X' => y = .returned (.tuple #[]) ∧ F (k * 3 + 2) g q X') ∧ (∀ g q X, F (k * 3 + 2) g q X → Calls Tryd.prog fd #[rv, .int .i64 ((cs.getD k opZ).n - (cs.getD k opZ).k)] X fun y X' => y = .returned (.tuple #[]) ∧ F ((k + 1) * 3) g q X')) := hide fun k hlt => by
    obtain ⟨h1, h2, h3⟩ := opsC_get n cs hlt
    refine ⟨fun g q X hX => ?_, fun g q X hX => ?_, fun g q X hX => ?_⟩
    · have := hk (k * 3) g q X (by omega) (by rw [h1]) hX
      rw [h1] at this; exact this
    · have := hp (k * 3 + 1) g q X (by omega) (by rw [h2]) hX
      rw [h2] at this; exact this
    · have := hq (k * 3 + 2) g q X (by omega) (by rw [h3]) hX
      rw [h3] at this
      rw [show (k + 1) * 3 = k * 3 + 2 + 1 by omega]
      exact this
  have HE : Hid (∀ X, I (cs.length * 3) X → Calls Tryd.prog fk #[rv, .int .i64 (n - lstC 0 cs)] X fun y X' => y = .returned (.tuple #[]) ∧ I (cs.length * 3 + 1) X') := hide fun X hX => by
    have h1 := opsC_last n cs
    have := he (cs.length * 3) X (by omega) (by rw [h1]) hX
    rw [h1] at this; exact this
  have HW : Hid (∀ k, k < cs.length → wrap64 ((cs.getD k opZ).k - lstC 0 (cs.take k)) = (cs.getD k opZ).k - lstC 0 (cs.take k) ∧ wrap64 ((cs.getD k opZ).n - (cs.getD k opZ).k) = (cs.getD k opZ).n - (cs.getD k opZ).k) := hide fun k hlt => by
    have h1 := ok.z
    obtain ⟨h2, h3, h4, h5⟩ := ok.c k hlt
    exact ⟨wrapD _ (by omega) (by omega), wrapD _ (by omega) (by omega)⟩
  have e9 : wrap64 (n - lstC 0 cs) = n - lstC 0 cs := by have h1 := ok.z; have h2 := ok.l; exact wrapD _ (by omega) (by omega)
  have H0 := hide h0
  clear hd hI hA hF hk hp hq he h0 HL ok
  go_enter Tryd.func63, Tryd.ntmps63
  go_wp2_with fail
  go_loopw [10, 12, 15] (fun v10 v12 v15 wx => (∃ z, v12 = z) ∧ (∃ k : Nat, v15 = .int .i64 (k : Int) ∧ v10 = .int .i64 (lstC 0 (cs.take k)) ∧ k ≤ cs.length ∧ Hid (I (k * 3) wx))) (fun _ _ v15 _ => cs.length - (intOf v15).toNat)
  case atStart => exact ⟨⟨_, rfl⟩, ⟨0, rfl, rfl, Nat.zero_le _, H0⟩⟩
  case round =>
    clear H0
    obtain ⟨⟨z1, rfl⟩, ⟨k, rfl, rfl, hk, HB⟩⟩ := hrel
    by_cases hlt : k < cs.length
    · have t1 : decide ((k : Int) < (cs.length : Int)) = true := decide_eq_true (by omega)
      obtain ⟨g, off, rfl, hg, c0, c1, c2⟩ := (unhide HO wr (unhide HI _ wr (unhide HB))).three hlt
      obtain ⟨hK1, hP1, hQ1⟩ := unhide HK k hlt
      have HK1 := hide hK1
      have HP1 := hide hP1
      have HQ1 := hide hQ1
      obtain ⟨w1, w2⟩ := unhide HW k hlt
      have HT := hide (lstC_take 0 cs k hlt)
      clear hK1 hP1 hQ1 HK HW e9
      generalize cs.getD k opZ = x at *
      obtain ⟨xk, xn, xt⟩ := x
      dsimp only at c0 c1 c2 HK1 HP1 HQ1 w1 w2 HT
      generalize lstC 0 (cs.take k) = p at *
      generalize hM1 : xk - p = M1 at *
      generalize hM2 : xn - xk = M2 at *
      obtain ⟨d0, d1, d2⟩ := three_nwD wr (.int .i64 xk) (.int .i64 xn) (.string (strOfNums xt)) (t := 57)
      have HA := hide (unhide HAl _ wr #[.int .i64 xk, .int .i64 xn, .string (strOfNums xt)] (unhide HB))
      generalize strOfNums xt = st at *
      clear HB
      go_upto_region 4 with fail
      clear c0 c1 c2 d1 d2
      have HC := hide (unhide HK1 _ _ _ (unhide HA))
      clear HA HK1
      generalize wr.alloc (.cells #[.int .i64 xk, .int .i64 xn, .string st] 57) = v0 at *
      generalize wr.heap.size = gb at *
      go_wp2_with fail
      try rw [w1]
      refine (unhide HC).mono ?_
      rintro y v1 ⟨rfl, hi1⟩
      dsimp only
      obtain ⟨k1, _⟩ := unhide HFF _ _ _ _ hi1
      have f2 : v1.cell? ⟨gb, 2, none⟩ = some (.string st) := k1.cell 2
      have HC2 := hide (unhide HP1 _ _ _ hi1)
      clear HC hi1 HP1 k1 d0
      go_wp2_with fail
      refine (unhide HC2).mono ?_
      rintro y v2 ⟨rfl, hi1⟩
      dsimp only
      obtain ⟨k1, _⟩ := unhide HFF _ _ _ _ hi1
      have f0 : v2.cell? ⟨gb, 0, none⟩ = some (.int .i64 xk) := k1.cell 0
      have f1 : v2.cell? ⟨gb, 1, none⟩ = some (.int .i64 xn) := k1.cell 1
      have HC3 := hide (unhide HQ1 _ _ _ hi1)
      clear HC2 hi1 HQ1 k1 f2
      go_wp2_with fail
      try rw [w2]
      refine (unhide HC3).mono ?_
      rintro y v3 ⟨rfl, hi1⟩
      dsimp only
      obtain ⟨k1, hj⟩ := unhide HFF _ _ _ _ hi1
      have f1 : v3.cell? ⟨gb, 1, none⟩ = some (.int .i64 xn) := k1.cell 1
      have HN := hide hj
      clear HC3 hi1 k1 hj f0 HFF
      go_wp2_with fail
      go_roundw
      case rel => exact ⟨⟨_, rfl⟩, ⟨k + 1, by go_num, by rw [unhide HT], hlt, HN⟩⟩
      case measure => simp [intOf]; omega
    · obtain rfl : k = cs.length := by omega
      have t1 : decide ((cs.length : Int) < (cs.length : Int)) = false := decide_eq_false (by omega)
      have HE1 := hide (unhide HE wr (unhide HB))
      clear hk HK HW HE HB HAl HFF HO HI
      rw [List.take_length]
      generalize hM : n - lstC 0 cs = M at *
      generalize lstC 0 cs = p at *
      go_wp2_with fail
      try rw [e9]
      refine (unhide HE1).mono ?_
      rintro y v3 ⟨rfl, hi1⟩
      dsimp only
      have HN := hide hi1
      clear HE1 hi1
      go_wp2_with fail
      exact bodyPost_end (v := .tuple #[]) (results_none Tryd.results63 _ _ _) rfl ⟨rfl, unhide HN⟩

end Go.Proofs.YtkdnanlgkedjgabDoor
end

section
namespace Go.Proofs.YtkdnanlgkedjgabDoor
open Go.ChangeShapes Go.WideShapes Go.ChangeAt Go.RowKit
attribute [local go_sem] Oper.semAt_some

/-- append(Delta{}, d...) -/
theorem copy_op (w : World) (a0 : Option Addr) (cap : Nat) (d : List Dop) (ty : TypeId) (h : IsO w a0 d) (hz : d = [] ∨ ∃ a, a0 = some a) (hb : d.length * 32 ≤ 140737488355328) :
    ∃ v' w', (Builtin.append_ #[24, 24] ty #[.slice (some ⟨w.heap.size, 0, none⟩) 0 0, .slice a0 d.length cap]).run Tryd.prog (w.alloc (.cells #[] 41)) = .ok v' w' ∧
      w'.ownsRow w.heap.size 41 3 v' d.length (opsV d) ∧ Below w.heap.size w w' := by
  obtain ⟨i, hi, hzz, hs, hby⟩ := info_op
  have hb0 : Below w.heap.size w (w.alloc (.cells #[] 41)) := (Below.refl _ _).alloc (Nat.le_refl _) _
  have hown : (w.alloc (.cells #[] 41)).ownsRow w.heap.size 41 3 (.slice (some ⟨w.heap.size, 0, none⟩) 0 0) 0 [] := World.ownsRow_made w #[] 0 (Nat.le_refl _) (Nat.zero_le _) rfl
  have h' := h.below hb0 (Nat.le_refl _)
  by_cases hd : d = []
  · subst hd
    refine ⟨.slice (some ⟨w.heap.size, 0, none⟩) 0 0, _, ?_, hown, hb0⟩
    have hsrc : Src Tryd.prog i.size 24 (.slice a0 0 cap) 0 [] (w.alloc (.cells #[] 41)) := by
      cases a0 with
      | none => exact Src.ofNil _ Tryd.underlying24 cap
      | some x => exact Src.ofSlice _ Tryd.underlying24 x 0 cap [] (by simp) (fun j u h => by simp at h) (fun u h => by cases h)
    exact run_append_room_src (P := Tryd.prog) (w.alloc (.cells #[] 41)) 24 24 ty 41 i Tryd.underlying24 hi w.heap.size 0 0 0 (.slice a0 0 cap) 0 [] hsrc (Nat.le_refl _) (fun j hj => absurd hj (Nat.not_lt_zero _)) (fun j hj => absurd hj (Nat.not_lt_zero _))
  · rcases h' with h' | ⟨g, off, rfl, hg, hL⟩
    · exact absurd h' hd
    obtain ⟨v', w', hr, ho, hgr, _⟩ := run_append_own (P := Tryd.prog) (w.alloc (.cells #[] 41)) w.heap.size 24 ty 41 i (.agg #[.int .i64 0, .int .i64 0, .string ⟨#[]⟩]) 3 32 Tryd.underlying24 hi hzz hs hby rfl (by decide)
      _ 0 [] hown ⟨g, off, none⟩ d.length cap (opsV d) (opsV_len d)
      (fun j u hj => by
        have hjl : j < (opsV d).length := (List.getElem?_eq_some_iff.1 hj).1
        rw [opsV_len] at hjl
        have hk : j / 3 < d.length := by omega
        have e := opsV_get d (j / 3) (j % 3) hk (by omega)
        rw [show j / 3 * 3 + j % 3 = j by omega, hj] at e
        obtain ⟨c0, c1, c2⟩ := hL (j / 3) hk
        rw [Addr.add_lit]
        have hm : j % 3 = 0 ∨ j % 3 = 1 ∨ j % 3 = 2 := by omega
        rcases hm with hm | hm | hm
        · rw [hm] at e; rw [show off + j = off + j / 3 * 3 by omega]; exact c0.trans e.symm
        · rw [hm] at e; rw [show off + j = off + j / 3 * 3 + 1 by omega]; exact c1.trans e.symm
        · rw [hm] at e; rw [show off + j = off + j / 3 * 3 + 2 by omega]; exact c2.trans e.symm)
      (fun u hu => by obtain ⟨x, _, hx⟩ := List.mem_flatMap.1 hu; exact opL_cell hx) (by unfold maxLen; omega) (by omega) (by simp)
    refine ⟨v', w', hr, ?_, hb0.grown hgr (by simp) (fun k e => by cases e; exact Nat.le_refl _)⟩
    rw [Nat.zero_add, List.nil_append] at ho
    exact ho
theorem getD_memE {d : List Dop} {k : Nat} (hk : k < d.length) : d.getD k opZ ∈ d := by
  rw [List.getD_eq_getElem?_getD, List.getElem?_eq_getElem hk]; exact List.getElem_mem hk
def TbD (o : Dop) : Prop := ∀ x ∈ o.t, 0 ≤ x ∧ x ≤ 255
instance decDop : DecidableEq Dop := fun a b => decidable_of_iff (a.k = b.k ∧ a.n = b.n ∧ a.t = b.t) (by cases a; cases b; simp)
theorem op_neq {x y : Dop} (hx : TbD x) (hy : TbD y) : x = y ∨ (x ≠ y ∧ (¬ x.k = y.k ∨ (x.k = y.k ∧ ¬ x.n = y.n) ∨ (x.k = y.k ∧ x.n = y.n ∧ ¬ (strOfNums x.t).toList = (strOfNums y.t).toList))) := by
  have h := str_beq hx hy
  obtain ⟨a, b, c⟩ := x
  obtain ⟨a', b', c'⟩ := y
  dsimp only at h ⊢
  by_cases h1 : a = a'
  · by_cases h2 : b = b'
    · by_cases h3 : c = c'
      · left; rw [h1, h2, h3]
      · right
        refine ⟨by simp [h1, h2, h3], .inr (.inr ⟨h1, h2, fun e => ?_⟩)⟩
        rw [e, decide_eq_false h3] at h
        simp at h
    · right; exact ⟨by simp [h1, h2], .inr (.inl ⟨h1, h2⟩)⟩
  · right; exact ⟨by simp [h1], .inl h1⟩
theorem take_eqD {d e : List Dop} {k : Nat} (hd : k < d.length) (he : k < e.length) (h : d.take k = e.take k) (hx : d.getD k opZ = e.getD k opZ) : d.take (k + 1) = e.take (k + 1) := by
  rw [List.take_add_one, List.take_add_one, h, List.getElem?_eq_getElem hd, List.getElem?_eq_getElem he]
  rw [List.getD_eq_getElem?_getD, List.getElem?_eq_getElem hd, List.getD_eq_getElem?_getD, List.getElem?_eq_getElem he] at hx
  rw [show d[k] = e[k] from hx]
end Go.Proofs.YtkdnanlgkedjgabDoor
end

section
namespace Go.Proofs.YtkdnanlgkedjgabDoor
open Go.ChangeShapes Go.WideShapes Go.ChangeAt Go.RowKit
attribute [local go_sem] Oper.semAt_some

theorem rowD_set {W : World} {B g c n s : Nat} {t : TypeId} {xs : List Value} (h : W.ownsRow B t s (.slice (some ⟨g, 0, none⟩) n c) n xs) (j : Nat) (u : Value) : (W.setCell ⟨g, j, none⟩ u).ownsRow B t s (.slice (some ⟨g, 0, none⟩) n c) n (xs.set j u) := by
  have hh := h
  rcases h.2 with ⟨h0, _⟩ | ⟨g', cap', cur, hv, hb, hg, hc, hm, hs, ht⟩
  · cases h0
  · cases hv
    refine ⟨by rw [List.length_set]; exact h.1, Or.inr ⟨g, c, cur.setIfInBounds j u, rfl, hb, ?_, hc, hm, by simpa using hs, ?_⟩⟩
    · have hlt : g < W.heap.size := (Array.getElem?_eq_some_iff.1 hg).1
      simp only [World.setCell, Array.getElem?_modify, if_true, hg, Option.map_some]
      rfl
    · rw [Array.toList_setIfInBounds, List.take_set, ht]
theorem rowD_cell {W : World} {B g c n s : Nat} {t : TypeId} {xs : List Value} (h : W.ownsRow B t s (.slice (some ⟨g, 0, none⟩) n c) n xs) {j : Nat} {u : Value} (hj : xs[j]? = some u) : W.cell? ⟨g, j, none⟩ = some u ∧ W.frozen? ⟨g, j, none⟩ = false := by
  have := World.ownsRow.cells h rfl j u hj
  rw [Addr.add_lit, Nat.zero_add] at this
  refine ⟨this, ?_⟩
  rcases h.2 with ⟨h0, _⟩ | ⟨g', cap', cur, hv, _, hg, _⟩
  · cases h0
  · cases hv; simp [World.frozen?, hg]
theorem opsV_last (d : List Dop) (x : Dop) : (opsV (d ++ [x]))[d.length * 3]? = some (.int .i64 x.k) ∧ (opsV (d ++ [x]))[d.length * 3 + 1]? = some (.int .i64 x.n) ∧ (opsV (d ++ [x]))[d.length * 3 + 2]? = some (.string (strOfNums x.t)) := by
  have hl := opsV_len d
  rw [opsV_app, opsV_one]
  refine ⟨?_, ?_, ?_⟩
  · rw [List.getElem?_append_right (by omega), hl, Nat.sub_self]; rfl
  · rw [List.getElem?_append_right (by omega), hl, show d.length * 3 + 1 - d.length * 3 = 1 by omega]; rfl
  · rw [List.getElem?_append_right (by omega), hl, show d.length * 3 + 2 - d.length * 3 = 2 by omega]; rfl
theorem opsV_set1 (d : List Dop) (x : Dop) (n : Int) : (opsV (d ++ [x])).set (d.length * 3 + 1) (.int .i64 n) = opsV (d ++ [⟨x.k, n, x.t⟩]) := by
  rw [opsV_app, opsV_app, opsV_one, opsV_one, List.set_append_right _ _ (by rw [opsV_len]; omega), opsV_len, show d.length * 3 + 1 - d.length * 3 = 1 by omega]
  rfl
theorem opsV_set2 (d : List Dop) (x : Dop) (t : List Int) : (opsV (d ++ [x])).set (d.length * 3 + 2) (.string (strOfNums t)) = opsV (d ++ [⟨x.k, x.n, t⟩]) := by
  rw [opsV_app, opsV_app, opsV_one, opsV_one, List.set_append_right _ _ (by rw [opsV_len]; omega), opsV_len, show d.length * 3 + 2 - d.length * 3 = 2 by omega]
  rfl
theorem str_appD (a b : List Int) : strOfNums a ++ strOfNums b = strOfNums (a ++ b) := by
  apply ByteArray.ext
  simp [strOfNums]
/-- the operation that add writes behind the others -/
def newD (k n : Int) (t : List Int) : Dop := if k = 2 then ⟨2, 0, t⟩ else ⟨k, n, []⟩
theorem add1_nil (k n : Int) (t : List Int) : add1 [] k n t = [newD k n t] := rfl
theorem add1_other {d : List Dop} {x : Dop} {k n : Int} {t : List Int} (h : ¬ x.k = k) : add1 (d ++ [x]) k n t = d ++ [x] ++ [newD k n t] := by
  unfold add1
  simp only [List.getLast?_append, List.getLast?_singleton, Option.some_or, if_neg h]
  rfl
theorem add1_same {d : List Dop} {x : Dop} {k n : Int} {t : List Int} (h : x.k = k) : add1 (d ++ [x]) k n t = d ++ [⟨x.k, x.n + n, x.t ++ t⟩] := by
  unfold add1
  simp only [List.getLast?_append, List.getLast?_singleton, Option.some_or, if_pos h, List.dropLast_concat]
/-- nothing to add -/
def noD (k n : Int) (t : List Int) : Prop := (k = 2 ∧ t = []) ∨ (¬ k = 2 ∧ n = 0)
theorem no_tests {k n : Int} {t : List Int} (h : ¬ noD k n t) : ((k == 2) = true ∧ (k != 2) = false ∧ t.isEmpty = false) ∨ ((k == 2) = false ∧ (k != 2) = true ∧ (n == 0) = false) := by
  unfold noD at h
  by_cases hk : k = 2
  · left
    refine ⟨by simp [hk], by simp [hk], ?_⟩
    cases t with
    | nil => exact absurd (.inl ⟨hk, rfl⟩) h
    | cons a r => rfl
  · right
    refine ⟨by simp [hk], by simp [hk], ?_⟩
    have : ¬ n = 0 := fun hn => h (.inr ⟨hk, hn⟩)
    simpa using this
theorem rowD_some {X : World} {B s n : Nat} {t : TypeId} {v : Value} {xs : List Value} (h : X.ownsRow B t s v n xs) (hn : 0 < n) : ∃ g c, v = .slice (some ⟨g, 0, none⟩) n c ∧ B ≤ g := by
  rcases h.2 with ⟨_, h2⟩ | ⟨g, cap, cur, rfl, h3, _⟩
  · omega
  · exact ⟨g, cap, rfl, h3⟩
theorem last_arith {m : Nat} (hm : m ≤ 1073741824) : wrap64 (((m + 1 : Nat) : Int) - 1) = (m : Int) ∧ wrap64 ((m : Int) + 1 - 1) = (m : Int) ∧ wrap64 (m : Int) = (m : Int) ∧ decide ((m : Int) ≥ 0) = true ∧ decide (0 ≤ (m : Int)) = true ∧ (m : Int) < ((m + 1 : Nat) : Int) :=
  ⟨by rw [wrapD _ (by omega) (by omega)]; omega, by rw [wrapD _ (by omega) (by omega)]; omega, wrapD _ (by omega) (by omega), decide_eq_true (by omega), decide_eq_true (by omega), by omega⟩
theorem list_snoc {d : List Dop} (h : d ≠ []) : ∃ e x, d = e ++ [x] := ⟨d.dropLast, d.getLast h, (List.dropLast_concat_getLast h).symm⟩
end Go.Proofs.YtkdnanlgkedjgabDoor
end

section
namespace Go.Proofs.YtkdnanlgkedjgabDoor
open Go.ChangeShapes Go.WideShapes Go.ChangeAt Go.RowKit
attribute [local go_sem] Oper.semAt_some

theorem IsO.pre {W : World} {a : Option Addr} {d e : List Dop} (h : IsO W a (d ++ e)) : IsO W a d := by
  rcases h with h | ⟨g, off, rfl, hg, hc⟩
  · exact Or.inl (List.append_eq_nil_iff.1 h).1
  · refine Or.inr ⟨g, off, rfl, hg, fun k hk => ?_⟩
    have := hc k (by rw [List.length_append]; omega)
    rwa [show (d ++ e).getD k opZ = d.getD k opZ by simp [List.getD_eq_getElem?_getD, List.getElem?_append_left hk]] at this
theorem IsO.some {W : World} {a : Option Addr} {d : List Dop} (h : IsO W a d) : d = [] ∨ ∃ q, a = some q := by
  rcases h with h | ⟨g, off, rfl, _⟩
  · exact .inl h
  · exact .inr ⟨_, rfl⟩
/-- what may be added to -/
structure AdOk (d : List Dop) (n : Int) (t : List Int) : Prop where
  c : Can d
  l : d.length ≤ 1073741823
  xn : ∀ x ∈ d, x.n ≤ 2305843009213693952
  xt : ∀ x ∈ d, x.t.length ≤ 2305843009213693952
  nn : 0 ≤ n ∧ n ≤ 2305843009213693952
  tt : t.length ≤ 2305843009213693952
theorem pln_n {o : Dop} (h : Pln o) : 0 ≤ o.n := by rcases h with ⟨_, h, _⟩ | ⟨_, h, _⟩ <;> omega
theorem add1_len (d : List Dop) (k n : Int) (t : List Int) : (add1 d k n t).length ≤ d.length + 1 := by
  by_cases hd : d = []
  · subst hd; rw [add1_nil]; simp
  · obtain ⟨e, x, rfl⟩ := list_snoc hd
    by_cases hk : x.k = k
    · rw [add1_same hk]; simp
    · rw [add1_other hk]; simp
theorem no_yes {k n : Int} {t : List Int} (h : noD k n t) : ((k == 2) = true ∧ (k != 2) = false ∧ t.isEmpty = true) ∨ ((k == 2) = false ∧ (k != 2) = true ∧ (n == 0) = true) := by
  rcases h with ⟨h1, h2⟩ | ⟨h1, h2⟩
  · left; simp [h1, h2]
  · right; simp [h1, h2]
theorem addD_no {d : List Dop} {k n : Int} {t : List Int} (h : noD k n t) : addD d k n t = d := by unfold addD; unfold noD at h; rw [if_pos h]
theorem addD_one {d : List Dop} {k n : Int} {t : List Int} (h : ¬ noD k n t) (hx : ∀ x, d.getLast? = some x → ¬ (k = 2 ∧ x.k = 3)) : addD d k n t = add1 d k n t := by
  unfold addD
  unfold noD at h
  rw [if_neg h]
  cases hl : d.getLast? with
  | none => rfl
  | some x => simp only [hx x hl, if_false]
theorem addD_put {e : List Dop} {x : Dop} {n : Int} {t : List Int} (h : t ≠ []) (hx : x.k = 3) : addD (e ++ [x]) 2 n t = add1 e 2 0 t ++ [⟨3, x.n, []⟩] := by
  unfold addD
  rw [if_neg (by simp [h])]
  simp [hx]
theorem can_preD {e : List Dop} {x : Dop} (h : Can (e ++ [x])) : Can e := ⟨fun o ho => h.p o (by simp [ho]), (chn_app h.c).1⟩
end Go.Proofs.YtkdnanlgkedjgabDoor
end

section
namespace Go.Proofs.YtkdnanlgkedjgabDoor
open Go.ChangeShapes Go.WideShapes Go.ChangeAt Go.RowKit
attribute [local go_sem] Oper.semAt_some

theorem kn_cases (o : Dop) : (knB o = true ∧ decide (o.k < 1) = false ∧ decide (o.k > 3) = false ∧ decide (3 < o.k) = false ∧ ((o.k != 2) = false ∨ ((o.k != 2) = true ∧ decide (o.n < 0) = false))) ∨
    (knB o = false ∧ (decide (o.k < 1) = true ∨ (decide (o.k < 1) = false ∧ decide (o.k > 3) = true ∧ decide (3 < o.k) = true) ∨ (decide (o.k < 1) = false ∧ decide (o.k > 3) = false ∧ decide (3 < o.k) = false ∧ (o.k != 2) = true ∧ decide (o.n < 0) = true))) := by
  obtain ⟨k, n, t⟩ := o
  unfold knB
  dsimp only
  by_cases h1 : k < 1
  · right; refine ⟨?_, .inl (decide_eq_true h1)⟩; simp; omega
  by_cases h2 : 3 < k
  · right; refine ⟨?_, .inr (.inl ⟨decide_eq_false h1, decide_eq_true h2, decide_eq_true h2⟩)⟩; simp; omega
  by_cases h3 : k = 2
  · left; subst h3; simp
  by_cases h4 : n < 0
  · right; refine ⟨?_, .inr (.inr ⟨decide_eq_false h1, decide_eq_false h2, decide_eq_false h2, by simpa using h3, decide_eq_true h4⟩)⟩; simp; omega
  · left; refine ⟨?_, decide_eq_false h1, decide_eq_false h2, decide_eq_false h2, .inr ⟨by simpa using h3, decide_eq_false h4⟩⟩; simp; omega
theorem op_small {d : List Dop} {x : Dop} (h : Can d) (hx : x ∈ d) : x.n ≤ ((dA d).length : Int) ∧ x.t.length ≤ (dA d).length := by
  obtain ⟨a, b, rfl⟩ := List.append_of_mem hx
  have hp := h.p x hx
  have e : (dA (a ++ x :: b)).length = (dA a).length + ((opA x).length + (dA b).length) := by rw [dA_app, dA_cons, List.length_append, List.length_append]
  rw [e]
  rcases hp with ⟨h1 | h1, h2, h3⟩ | ⟨h1, h2, h3⟩
  · have : (opA x).length = x.n.toNat := by simp [opA, h1]
    rw [h3]; simp; omega
  · have : (opA x).length = x.n.toNat := by simp [opA, h1]
    rw [h3]; simp; omega
  · have : (opA x).length = x.t.length := by simp [opA, h1]
    omega
theorem fin_len (u : List Atm) : (dA (feedA b0 u).fin).length = u.length := by
  have := congrArg List.length (feed_atoms u wb0)
  rw [nf_len, nf_len] at this
  exact this.trans rfl
theorem adok_feed {u : List Atm} {n : Int} {t : List Int} (hu : u.length ≤ 1073741000) (hn : 0 ≤ n ∧ n ≤ 2305843009213693952) (ht : t.length ≤ 2305843009213693952) : AdOk (feedA b0 u).fin n t := by
  have hc := can_fin (wb_feed u wb0)
  have hl := fin_len u
  refine ⟨hc, ?_, fun x hx => ?_, fun x hx => ?_, hn, ht⟩
  · have := can_len hc.p; omega
  · have := (op_small hc hx).1; omega
  · have := (op_small hc hx).2; omega
/-- one more operation, as add says and as the builder does -/
theorem add_op {u : List Atm} {x : Dop} (hk : x.k = 1 ∨ x.k = 2 ∨ x.k = 3) (hn : x.k ≠ 2 → 0 ≤ x.n) : addD (feedA b0 u).fin x.k (if x.k = 2 then 0 else x.n) (if x.k = 2 then x.t else []) = (feedA b0 (u ++ opA x)).fin := by
  have hw := wb_feed u wb0
  rw [feedA_app, ← op_atoms]
  rcases hk with h | h | h
  · obtain ⟨m, hm⟩ : ∃ m : Nat, x.n = (m : Int) := ⟨x.n.toNat, by have := hn (by omega); omega⟩
    rw [op_keep h, h, hm]
    simp only [show ¬ ((1 : Int) = 2) by decide, if_false, Int.toNat_natCast]
    exact add_keep hw m
  · rw [op_put h, h]
    simp only [if_true]
    exact add_put hw x.t
  · obtain ⟨m, hm⟩ : ∃ m : Nat, x.n = (m : Int) := ⟨x.n.toNat, by have := hn (by omega); omega⟩
    rw [op_drop h, h, hm]
    simp only [show ¬ ((3 : Int) = 2) by decide, if_false, Int.toNat_natCast]
    exact add_drop hw m
theorem dA_takeS (d : List Dop) {k : Nat} (hk : k < d.length) : dA (d.take (k + 1)) = dA (d.take k) ++ opA (d.getD k opZ) := by
  rw [List.take_add_one, List.getElem?_eq_getElem hk, Option.toList_some, dA_app]
  simp [dA, List.getD_eq_getElem?_getD, List.getElem?_eq_getElem hk]
theorem frD_le (d : List Dop) (k : Nat) : frD (d.take k) ≤ frD d ∧ toD (d.take k) ≤ toD d := by
  have h1 : frD d = frD (d.take k) + frD (d.drop k) := by unfold frD; rw [← List.sum_append, ← List.map_append, List.take_append_drop]
  have h2 : toD d = toD (d.take k) + toD (d.drop k) := by unfold toD; rw [← List.sum_append, ← List.map_append, List.take_append_drop]
  omega
theorem ca_k {f m F : Nat} (hf : f ≤ 268435456) (hm : m ≤ 140737488355328) (h : F = f + m) : wrap64 ((f : Int) + (m : Int)) = (F : Int) ∧ wrap64 ((F : Int) + 0) = (F : Int) ∧ wrap64 (F : Int) = (F : Int) := by
  subst h
  exact ⟨by rw [wrapD _ (by omega) (by omega)]; omega, by rw [wrapD _ (by omega) (by omega)]; omega, wrapD _ (by omega) (by omega)⟩
theorem ca_0 {f : Nat} (hf : f ≤ 268435456) : wrap64 ((f : Int) + 0) = (f : Int) ∧ wrap64 (f : Int) = (f : Int) := ⟨by rw [wrapD _ (by omega) (by omega)]; omega, wrapD _ (by omega) (by omega)⟩
theorem big_t {m : Nat} (h : 268435456 < m) : decide ((m : Int) > 268435456) = true ∧ decide ((268435456 : Int) < (m : Int)) = true ∧ decide (268435456 < m) = true := ⟨decide_eq_true (by omega), decide_eq_true (by omega), decide_eq_true h⟩
theorem big_f {m : Nat} (h : ¬ 268435456 < m) : decide ((m : Int) > 268435456) = false ∧ decide ((268435456 : Int) < (m : Int)) = false ∧ decide (268435456 < m) = false := ⟨decide_eq_false (by omega), decide_eq_false (by omega), decide_eq_false h⟩
/-- the state of the second loop -/
structure CaI (d : List Dop) (k f t : Nat) (L : List Dop) (w : World) (a : Option Addr) (X : World) : Prop where
  ef : f = frD (d.take k)
  et : t = toD (d.take k)
  z : f ≤ 268435456 ∧ t ≤ 268435456
  l : L = (feedA b0 (dA (d.take k))).fin
  o : IsO X a L
  d : Below w.heap.size w X
end Go.Proofs.YtkdnanlgkedjgabDoor
end

section
namespace Go.Proofs.YtkdnanlgkedjgabDoor
open Go.ChangeShapes Go.WideShapes Go.ChangeAt Go.RowKit
attribute [local go_sem] Oper.semAt_some

/-- changes in order, within n bytes -/
def okL : Int → List Dop → Int → Prop
  | p, [], n => p ≤ n
  | p, c :: r, n => p ≤ c.k ∧ c.k ≤ c.n ∧ c.n ≤ n ∧ okL c.n r n
theorem okL_of : ∀ (cs : List Dop) (p n : Int), p ≤ n → (∀ c, cs.head? = some c → p ≤ c.k) → (∀ k, k < cs.length → (cs.getD k opZ).k ≤ (cs.getD k opZ).n ∧ (cs.getD k opZ).n ≤ n) → (∀ k, k + 1 < cs.length → ¬ (cs.getD (k + 1) opZ).k < (cs.getD k opZ).n) → okL p cs n
  | [], _, _, h, _, _, _ => h
  | c :: r, p, n, h, h1, h2, h3 => by
    have e := h2 0 (by simp)
    simp only [List.getD, List.getElem?_cons_zero, Option.getD_some] at e
    refine ⟨h1 c rfl, e.1, e.2, okL_of r c.n n e.2 (fun d hd => ?_) (fun k hk => ?_) (fun k hk => ?_)⟩
    · cases r with
      | nil => simp at hd
      | cons d' r' =>
        simp only [List.head?_cons, Option.some.injEq] at hd
        subst hd
        have := h3 0 (by simp)
        simp at this
        omega
    · have := h2 (k + 1) (by simpa using hk)
      simpa using this
    · have := h3 (k + 1) (by simpa using hk)
      simpa using this
theorem okL_at : ∀ (cs : List Dop) (p n : Int), okL p cs n → ∀ k, k < cs.length → p ≤ lstC p (cs.take k) ∧ lstC p (cs.take k) ≤ (cs.getD k opZ).k ∧ (cs.getD k opZ).k ≤ (cs.getD k opZ).n ∧ (cs.getD k opZ).n ≤ n
  | [], _, _, _, k, hk => absurd hk (by simp)
  | c :: r, p, n, ⟨h1, h2, h3, _⟩, 0, _ => by simp [lstC]; omega
  | c :: r, p, n, ⟨h1, h2, h3, h4⟩, k + 1, hk => by
    have := okL_at r c.n n h4 k (by simpa using hk)
    simp [lstC] at this ⊢
    omega
theorem okL_end : ∀ (cs : List Dop) (p n : Int), okL p cs n → p ≤ lstC p cs ∧ lstC p cs ≤ n
  | [], _, _, h => ⟨Int.le_refl _, h⟩
  | c :: r, p, n, ⟨h1, h2, h3, h4⟩ => by
    have := okL_end r c.n n h4
    simp only [lstC]
    omega
theorem okC_of {cs : List Dop} {n : Int} (hn : 0 ≤ n ∧ n ≤ 268435456) (h : okL 0 cs n) : OkC n cs :=
  ⟨hn, fun k hk => okL_at cs 0 n h k hk, okL_end cs 0 n h⟩
/-- by how much longer the text gets -/
def dlC : List Dop → Int
  | [] => 0
  | c :: r => ((c.t.length : Int) - (c.n - c.k)) + dlC r
theorem dlC_take : ∀ (cs : List Dop) (k : Nat), k < cs.length → dlC (cs.take (k + 1)) = dlC (cs.take k) + (((cs.getD k opZ).t.length : Int) - ((cs.getD k opZ).n - (cs.getD k opZ).k))
  | [], k, hk => absurd hk (by simp)
  | c :: r, 0, _ => by simp [dlC]
  | c :: r, k + 1, hk => by
    have := dlC_take r k (by simpa using hk)
    simp only [List.take_succ_cons, dlC, this]
    simp
    omega
theorem frD_cons (o : Dop) (d : List Dop) : frD (o :: d) = frN o + frD d := by simp [frD]
theorem toD_cons (o : Dop) (d : List Dop) : toD (o :: d) = toN o + toD d := by simp [toD]
theorem frD_app (d e : List Dop) : frD (d ++ e) = frD d + frD e := by simp [frD]
theorem toD_app (d e : List Dop) : toD (d ++ e) = toD d + toD e := by simp [toD]
theorem opC_sizes : ∀ (cs : List Dop) (p n : Int), okL p cs n → (frD (opC p cs) : Int) = lstC p cs - p ∧ (toD (opC p cs) : Int) = lstC p cs - p + dlC cs
  | [], p, _, _ => by simp [opC, lstC, dlC, frD, toD]
  | c :: r, p, n, ⟨h1, h2, h3, h4⟩ => by
    obtain ⟨i1, i2⟩ := opC_sizes r c.n n h4
    simp only [opC, frD_cons, toD_cons, lstC, dlC]
    simp [frN, toN]
    omega
theorem opsC_sizes {cs : List Dop} {n : Int} (h : okL 0 cs n) : (frD (opsC n cs) : Int) = n ∧ (toD (opsC n cs) : Int) = n + dlC cs := by
  obtain ⟨i1, i2⟩ := opC_sizes cs 0 n h
  have := okL_end cs 0 n h
  simp only [opsC, frD_app, toD_app]
  have e1 : frD [(⟨1, n - lstC 0 cs, []⟩ : Dop)] = (n - lstC 0 cs).toNat := by simp [frD, frN]
  have e2 : toD [(⟨1, n - lstC 0 cs, []⟩ : Dop)] = (n - lstC 0 cs).toNat := by simp [toD, toN]
  rw [e1, e2]
  omega
theorem opC_ok : ∀ (cs : List Dop) (p n : Int), okL p cs n → ∀ o ∈ opC p cs, (o.k = 1 ∨ o.k = 2 ∨ o.k = 3) ∧ 0 ≤ o.n
  | [], _, _, _, o, ho => by simp [opC] at ho
  | c :: r, p, n, ⟨h1, h2, h3, h4⟩, o, ho => by
    simp only [opC, List.mem_cons] at ho
    rcases ho with rfl | rfl | rfl | ho
    · exact ⟨.inl rfl, by dsimp only; omega⟩
    · exact ⟨.inr (.inl rfl), by dsimp only; omega⟩
    · exact ⟨.inr (.inr rfl), by dsimp only; omega⟩
    · exact opC_ok r c.n n h4 o ho
theorem opsC_ok {cs : List Dop} {n : Int} (h : okL 0 cs n) : ∀ o ∈ opsC n cs, (o.k = 1 ∨ o.k = 2 ∨ o.k = 3) ∧ 0 ≤ o.n := by
  intro o ho
  rcases List.mem_append.1 ho with ho | ho
  · exact opC_ok cs 0 n h o ho
  · simp at ho; subst ho; have := okL_end cs 0 n h; exact ⟨.inl rfl, by dsimp only; omega⟩
/-- the sizes of changes -/
theorem eachC_z (a : Option Addr) (c B g : Nat) (n : Int) (cs : List Dop) (X : World) (hd : ∀ Y, Below B X Y → IsO Y a cs) (hX : IsZ X g 0 0) (hB : B ≤ g) (hB2 : B ≤ X.heap.size) (hl : cs.length ≤ 4398046511104) (hn : 0 ≤ n ∧ n ≤ 268435456) (hok : okL 0 cs n) :
    Calls Tryd.prog 63 #[.int .i64 n, .slice a cs.length c, .func (.func 32) #[.pointer (some ⟨g, 0, none⟩)] #[], .func (.func 33) #[.pointer (some ⟨g, 0, none⟩)] #[], .func (.func 34) #[.pointer (some ⟨g, 0, none⟩)] #[]] X
      fun y X' => y = .returned (.tuple #[]) ∧ IsZ X' g (satD (frD (opsC n cs))) (satD (toD (opsC n cs))) ∧ Below B X X' := by
  have hO := opsC_ok hok
  have hlen := opsC_len n cs
  generalize hd0 : opsC n cs = d at *
  have stepK : ∀ k Y, k < d.length → (d.getD k opZ).k = 1 → (IsZ Y g (satD (frD (d.take k))) (satD (toD (d.take k))) ∧ Below B X Y) → Calls Tryd.prog 32 #[.pointer (some ⟨g, 0, none⟩), .int .i64 (d.getD k opZ).n] Y fun y Z => y = .returned (.tuple #[]) ∧ (IsZ Z g (satD (frD (d.take (k + 1)))) (satD (toD (d.take (k + 1)))) ∧ Below B X Z) ∧ ∀ i, i ≠ g → Z.heap[i]? = Y.heap[i]? := fun k Y hk h1 hY => by
    obtain ⟨m, hm⟩ : ∃ m : Nat, (d.getD k opZ).n = (m : Int) := ⟨(d.getD k opZ).n.toNat, by have := (hO _ (getD_memD hk)).2; omega⟩
    rw [hm]
    refine (zkeepF_at g _ _ m Y hY.1 (satD_le _) (satD_le _)).mono fun y Z ⟨e, hz, hb, hi⟩ => ⟨e, ⟨?_, hY.2.trans (hb.mono hB)⟩, hi⟩
    rw [satD_add, satD_add] at hz
    rw [frD_take d hk, toD_take d hk, show frN (d.getD k opZ) = m by unfold frN; rw [if_pos (.inl h1), hm]; simp, show toN (d.getD k opZ) = m by unfold toN; rw [if_pos h1, hm]; simp]
    exact hz
  have ne : ∀ (Y : World) (q : Nat) (t : Array Value) (f s : Nat), IsZ Y g f s → Cls Y q 57 t → q ≠ g := fun Y q t f s h1 h2 => typeD_ne h2 h1 (by decide)
  have := eachC_at a c B n cs X 32 33 34 (.pointer (some ⟨g, 0, none⟩))
    (fun k Y => IsZ Y g (satD (frD (d.take k))) (satD (toD (d.take k))) ∧ Below B X Y)
    (fun k q t Y => (IsZ Y g (satD (frD (d.take k))) (satD (toD (d.take k))) ∧ Below B X Y) ∧ Cls Y q 57 t)
    (enters_of Tryd.func32 (by kernel_rfl) rfl) (enters_of Tryd.func33 (by kernel_rfl) rfl) (enters_of Tryd.func34 (by kernel_rfl) rfl)
    hd (fun k Y hY => hY.2) (fun k Y q hY => ⟨⟨Cls.alloc hY.1 _, hY.2.alloc (Nat.le_trans hB2 hY.2.size) _⟩, Cls.new _ _ _⟩) (fun k g q Y hY => ⟨hY.2, hY.1⟩) ⟨hX, Below.refl _ _⟩ hl (okC_of hn hok)
    (fun k q t Y hk h1 hY => by
      rw [hd0] at hk h1 ⊢
      exact (stepK k Y hk h1 hY.1).mono fun y Z ⟨e, hz, hi⟩ => ⟨e, hz, hY.2.same (hi q (ne Y q t _ _ hY.1.1 hY.2))⟩)
    (fun k q t Y hk h1 hY => by
      rw [hd0] at hk h1 ⊢
      refine (zputF_at g _ _ (d.getD k opZ).t.length (strOfNums (d.getD k opZ).t) Y hY.1.1 (satD_le _) (strOfNums_size _)).mono fun y Z ⟨e, hz, hb, hi⟩ => ⟨e, ⟨?_, hY.1.2.trans (hb.mono hB)⟩, hY.2.same (hi q (ne Y q t _ _ hY.1.1 hY.2))⟩
      rw [satD_add] at hz
      rw [frD_take d hk, toD_take d hk, show frN (d.getD k opZ) = 0 by unfold frN; rw [h1]; rfl, show toN (d.getD k opZ) = (d.getD k opZ).t.length by unfold toN; rw [h1]; rfl]
      exact hz)
    (fun k q t Y hk h1 hY => by
      rw [hd0] at hk h1 ⊢
      obtain ⟨m, hm⟩ : ∃ m : Nat, (d.getD k opZ).n = (m : Int) := ⟨(d.getD k opZ).n.toNat, by have := (hO _ (getD_memD hk)).2; omega⟩
      rw [hm]
      refine (zdropF_at g _ _ m Y hY.1.1 (satD_le _)).mono fun y Z ⟨e, hz, hb, hi⟩ => ⟨e, ⟨?_, hY.1.2.trans (hb.mono hB)⟩, hY.2.same (hi q (ne Y q t _ _ hY.1.1 hY.2))⟩
      rw [satD_add] at hz
      rw [frD_take d hk, toD_take d hk, show frN (d.getD k opZ) = m by unfold frN; rw [if_pos (.inr h1), hm]; simp, show toN (d.getD k opZ) = 0 by unfold toN; rw [h1]; rfl]
      exact hz)
    (fun k Y hk h1 hY => by
      rw [hd0] at hk h1 ⊢
      exact (stepK k Y hk h1 hY).mono fun y Z ⟨e, hz, _⟩ => ⟨e, hz⟩)
  rw [← hlen, List.take_length] at this
  exact this
/-- what lies elsewhere, told to a builder -/
def rQ (q : Nat) (t : Array Value) : Nat → Option Value := fun j => if j = 0 then some (.agg t) else if j = 1 then some (.int .i64 (q : Int)) else none
theorem rQ_far (q : Nat) (t : Array Value) {j : Nat} (h : 4 ≤ j) : rQ q t j = none := by unfold rQ; rw [if_neg (by omega), if_neg (by omega)]
theorem IsBd.re {X : World} {B g : Nat} {r r' : Nat → Option Value} {b : Bld} {ts : List (List Int)} (h : IsBd X B g 0 r b ts) (hf : FrB r' 0 X) (hr : ∀ j, 4 ≤ j → r' j = r j) : IsBd X B g 0 r' b ts := by
  obtain ⟨vo, vt, ⟨ca, t, k1, k2, k3, k4, k5, k6, k7⟩, h2, h3⟩ := h.c
  exact ⟨⟨vo, vt, ⟨ca, t, k1, k2, k3, k4, k5, k6, fun j hj => by rw [k7 j hj, hr j (by omega)]⟩, h2, h3⟩, h.t, h.z, hf⟩
theorem fr_rQ {q : Nat} {t : Array Value} {X : World} (h : Cls X q 57 t) : FrB (rQ q t) 0 X := fun cs k e1 e2 => by
  simp [rQ] at e1 e2
  subst e1
  obtain rfl : q = k := by omega
  exact h
/-- a builder of changes -/
theorem eachC_b (a : Option Addr) (c B g : Nat) (n : Int) (cs : List Dop) (X : World) (hd : ∀ Y, Below B X Y → IsO Y a cs) (hX : IsBd X B g 0 (fun _ => none) b0 []) (hB : B ≤ X.heap.size) (hl : cs.length ≤ 4398046511104) (hn : 0 ≤ n ∧ n ≤ 268435456) (hok : okL 0 cs n) (hz : frD (opsC n cs) + toD (opsC n cs) ≤ 1073741824) :
    Calls Tryd.prog 63 #[.int .i64 n, .slice a cs.length c, .func (.func 64) #[.pointer (some ⟨g, 0, none⟩)] #[], .func (.func 65) #[.pointer (some ⟨g, 0, none⟩)] #[], .func (.func 66) #[.pointer (some ⟨g, 0, none⟩)] #[]] X
      fun y X' => y = .returned (.tuple #[]) ∧ (∃ ts, IsBd X' B g 0 (fun _ => none) (feedA b0 (dA (opsC n cs))) ts) ∧ Below B X X' := by
  have hO := opsC_ok hok
  have hlen := opsC_len n cs
  generalize hd0 : opsC n cs = d at *
  have hb : ∀ k, (dA (d.take k)).length ≤ 1073741824 := fun k => by have := dA_take d k; have := dA_len (fun o ho => (hO o ho).1); omega
  have fr : ∀ k, k < d.length → (d.getD k opZ).k ≠ 2 → (d.getD k opZ).n.toNat ≤ 1073741824 := fun k hk h1 => by
    have e1 := frD_take d hk
    have e2 : frN (d.getD k opZ) = (d.getD k opZ).n.toNat := by
      have := (hO _ (getD_memD hk)).1
      unfold frN; rw [if_pos (by omega)]
    have e3 := (frD_le d (k + 1)).1
    omega
  have stepK : ∀ (r : Nat → Option Value) k Y, k < d.length → (d.getD k opZ).k = 1 → ((∃ ts, IsBd Y B g 0 r (feedA b0 (dA (d.take k))) ts) ∧ Below B X Y) → Calls Tryd.prog 64 #[.pointer (some ⟨g, 0, none⟩), .int .i64 (d.getD k opZ).n] Y fun y Z => y = .returned (.tuple #[]) ∧ (∃ ts, IsBd Z B g 0 r (feedA b0 (dA (d.take (k + 1)))) ts) ∧ Below B X Z := fun r k Y hk h1 ⟨⟨ts, hY⟩, hb2⟩ => by
    obtain ⟨m, hm⟩ : ∃ m : Nat, (d.getD k opZ).n = (m : Int) := ⟨(d.getD k opZ).n.toNat, by have := (hO _ (getD_memD hk)).2; omega⟩
    have hf := fr k hk (by omega)
    have e : feedA b0 (dA (d.take (k + 1))) = (feedA b0 (dA (d.take k))).keep m := by rw [← feedD_A, ← feedD_A, feedD_take d hk, op_keep h1, hm]; simp
    rw [hm, e]
    exact (bkeep_at B g 0 r _ ts m Y hY (bd_ok hY (hb k)) (by omega) (Nat.le_trans hB hb2.size)).mono fun y Z ⟨q, ⟨ts', h3, _⟩, h4⟩ => ⟨q, ⟨ts', h3⟩, hb2.trans h4⟩
  have := eachC_at a c B n cs X 64 65 66 (.pointer (some ⟨g, 0, none⟩))
    (fun k Y => (∃ ts, IsBd Y B g 0 (fun _ => none) (feedA b0 (dA (d.take k))) ts) ∧ Below B X Y)
    (fun k q t Y => (∃ ts, IsBd Y B g 0 (rQ q t) (feedA b0 (dA (d.take k))) ts) ∧ Below B X Y)
    (enters_of Tryd.func64 (by kernel_rfl) rfl) (enters_of Tryd.func65 (by kernel_rfl) rfl) (enters_of Tryd.func66 (by kernel_rfl) rfl)
    hd (fun k Y hY => hY.2)
    (fun k Y q ⟨⟨ts, h1⟩, h2⟩ => ⟨⟨ts, (h1.on ((Below.refl Y.heap.size Y).alloc (Nat.le_refl _) _) (Nat.le_refl _)).re (fr_rQ (Cls.new _ _ _)) (fun j hj => rQ_far _ _ hj)⟩, h2.alloc (Nat.le_trans hB h2.size) _⟩)
    (fun k q t Y ⟨⟨ts, h1⟩, h2⟩ => ⟨h1.f t q rfl rfl, ⟨ts, h1.re (fun cs k e1 _ => by cases e1) (fun j hj => (rQ_far _ _ hj).symm)⟩, h2⟩)
    ⟨⟨[], hX⟩, Below.refl _ _⟩ hl (okC_of hn hok)
    (fun k q t Y hk h1 hY => by
      rw [hd0] at hk h1 ⊢
      exact stepK (rQ q t) k Y hk h1 hY)
    (fun k q t Y hk h1 ⟨⟨ts, hY⟩, hb2⟩ => by
      rw [hd0] at hk h1 ⊢
      have e : feedA b0 (dA (d.take (k + 1))) = (feedA b0 (dA (d.take k))).put (d.getD k opZ).t := by rw [← feedD_A, ← feedD_A, feedD_take d hk, op_put h1]
      rw [e]
      exact (bput_at B g 0 (rQ q t) _ ts _ Y hY (bd_ok hY (hb k)).t (Nat.le_trans hB hb2.size)).mono fun y Z ⟨q, h3, h4⟩ => ⟨q, ⟨_, h3⟩, hb2.trans h4⟩)
    (fun k q t Y hk h1 ⟨⟨ts, hY⟩, hb2⟩ => by
      rw [hd0] at hk h1 ⊢
      obtain ⟨m, hm⟩ : ∃ m : Nat, (d.getD k opZ).n = (m : Int) := ⟨(d.getD k opZ).n.toNat, by have := (hO _ (getD_memD hk)).2; omega⟩
      have hf := fr k hk (by omega)
      have e : feedA b0 (dA (d.take (k + 1))) = (feedA b0 (dA (d.take k))).drop m := by rw [← feedD_A, ← feedD_A, feedD_take d hk, op_drop h1, hm]; simp
      rw [hm, e]
      exact (bdrop_at B g 0 (rQ q t) _ ts m Y hY (by have := (bd_ok hY (hb k)).d; omega)).mono fun y Z ⟨q, h3, h4⟩ => ⟨q, ⟨ts, h3⟩, hb2.trans h4⟩)
    (fun k Y hk h1 hY => by
      rw [hd0] at hk h1 ⊢
      exact stepK (fun _ => none) k Y hk h1 hY)
  rw [← hlen, List.take_length] at this
  exact this

end Go.Proofs.YtkdnanlgkedjgabDoor
end

section
namespace Go.Proofs.YtkdnanlgkedjgabDoor

section
set_option linter.unusedSectionVars false
variable {α : Type} [DecidableEq α]
def RunOk (x y : List α) : Nat → Nat → List (Nat × Nat × Nat) → Prop
  | i, j, [] => i = x.length ∧ j = y.length
  | i, j, (p, q, n) :: r => i ≤ p ∧ j ≤ q ∧ p + n ≤ x.length ∧ q + n ≤ y.length ∧ (x.drop p).take n = (y.drop q).take n ∧ RunOk x y (p + n) (q + n) r
omit [DecidableEq α] in
theorem drop_two (a b t : List α) : (a ++ b ++ t).drop (a.length + b.length) = t := by rw [← List.length_append, List.drop_left]
theorem run_mids : ∀ (n : Nat) (x y px py t : List α) (i0 j0 : Nat), x.length + y.length ≤ n → i0 ≤ px.length → j0 ≤ py.length →
    RunOk (px ++ x ++ t) (py ++ y ++ t) i0 j0 ((mids x y px.length py.length).map (fun p => (p.1, p.2, 1)) ++ [(px.length + x.length, py.length + y.length, t.length)])
  | n, [], y, px, py, t, i0, j0, h, h1, h2 => by
    rw [mids]
    refine ⟨by simpa using h1, by omega, by simp, by simp; omega, ?_, ?_⟩
    · rw [drop_two, drop_two]
    · exact ⟨by simp, by simp; omega⟩
  | n, a :: x, [], px, py, t, i0, j0, h, h1, h2 => by
    rw [mids]
    refine ⟨by omega, by simpa using h2, by simp; omega, by simp, ?_, ?_⟩
    · rw [drop_two, drop_two]
    · exact ⟨by simp; omega, by simp⟩
  | 0, _ :: _, _ :: _, _, _, _, _, _, h, _, _ => by simp at h
  | n + 1, a :: x, b :: y, px, py, t, i0, j0, h, h1, h2 => by
    simp only [List.length_cons] at h
    by_cases e : a = b
    · subst e
      rw [mids_same]
      have ih := run_mids n x y (px ++ [a]) (py ++ [a]) t (px.length + 1) (py.length + 1) (by omega) (by simp) (by simp)
      simp only [List.length_append, List.length_cons, List.length_nil, Nat.zero_add, List.append_assoc, List.cons_append, List.nil_append] at ih
      refine ⟨h1, h2, by simp, by simp, by simp, ?_⟩
      simp only [List.append_assoc, List.cons_append, List.length_cons]
      rw [show px.length + (x.length + 1) = px.length + 1 + x.length by omega, show py.length + (y.length + 1) = py.length + 1 + y.length by omega]
      exact ih
    · by_cases g : lcs (a :: x) y ≤ lcs x (b :: y)
      · rw [mids_up e g]
        have ih := run_mids n x (b :: y) (px ++ [a]) py t i0 j0 (by simp; omega) (by simp; omega) h2
        simp only [List.length_append, List.length_cons, List.length_nil, Nat.zero_add, List.append_assoc, List.cons_append, List.nil_append] at ih
        simp only [List.append_assoc, List.cons_append, List.length_cons]
        rw [show px.length + (x.length + 1) = px.length + 1 + x.length by omega]
        exact ih
      · rw [mids_on e g]
        have ih := run_mids n (a :: x) y px (py ++ [b]) t i0 j0 (by simp; omega) h1 (by simp; omega)
        simp only [List.length_append, List.length_cons, List.length_nil, Nat.zero_add, List.append_assoc, List.cons_append, List.nil_append] at ih
        simp only [List.append_assoc, List.cons_append, List.length_cons]
        rw [show py.length + (y.length + 1) = py.length + 1 + y.length by omega]
        exact ih
theorem runs_ok (x y : List α) : RunOk x y 0 0 (runsL x y) := by
  obtain ⟨h, x', y', t, h1, h2, _, _, h3⟩ := parts3 x y
  rw [h3]
  have := run_mids _ x' y' h h t h.length h.length (Nat.le_refl _) (Nat.le_refl _) (Nat.le_refl _)
  rw [← h1, ← h2] at this
  refine ⟨Nat.le_refl _, Nat.le_refl _, by rw [h1]; simp, by rw [h2]; simp, ?_, by simpa using this⟩
  rw [h1, h2]; simp
/-- runs that have something, all but the last -/
theorem runs_some (x y : List α) : ∃ h m l, runsL x y = (0, 0, h) :: (m ++ [l]) ∧ ∀ p ∈ m, p.2.2 = 1 := by
  obtain ⟨h, x', y', t, _, _, _, _, h3⟩ := parts3 x y
  refine ⟨h.length, _, _, by rw [h3]; rfl, fun p hp => ?_⟩
  obtain ⟨q, _, rfl⟩ := List.mem_map.1 hp
  rfl
theorem runs_len (x y : List α) : (runsL x y).length ≤ x.length + 2 := by
  obtain ⟨h, x', y', t, h1, _, _, _, h3⟩ := parts3 x y
  rw [h3]
  have := (lcs_len x' y').1
  simp only [List.length_append, List.length_cons, List.length_nil, List.length_map, mids_lcs]
  have : x'.length ≤ x.length := by rw [h1]; simp; omega
  omega
theorem run_at {x y : List α} : ∀ (L : List (Nat × Nat × Nat)) (i j k : Nat), RunOk x y i j L → k < L.length → (L.getD k (0, 0, 0)).1 + (L.getD k (0, 0, 0)).2.2 ≤ x.length ∧ (L.getD k (0, 0, 0)).2.1 + (L.getD k (0, 0, 0)).2.2 ≤ y.length
  | [], _, _, _, _, h => by simp at h
  | (p, q, n) :: r, i, j, 0, h, _ => ⟨h.2.2.1, h.2.2.2.1⟩
  | (p, q, n) :: r, i, j, k + 1, h, hk => by
    have := run_at r _ _ k h.2.2.2.2.2 (by simpa using hk)
    simpa using this
end

/-- what the program's loop over the runs makes: where it stands in both, and the changes -/
def chR (xc yc : List Nat) (b : List Int) (s : Nat × Nat × List Dop) (r : Nat × Nat × Nat) : Nat × Nat × List Dop :=
  (r.1 + r.2.2, r.2.1 + r.2.2, s.2.2 ++ if s.1 < r.1 ∨ s.2.1 < r.2.1 then [⟨(xc.getD s.1 0 : Int), (xc.getD r.1 0 : Int), (b.drop (yc.getD s.2.1 0)).take (yc.getD r.2.1 0 - yc.getD s.2.1 0)⟩] else [])
def chsR (xc yc : List Nat) (b : List Int) (L : List (Nat × Nat × Nat)) : Nat × Nat × List Dop := L.foldl (chR xc yc b) (0, 0, [])
theorem chsR_take (xc yc : List Nat) (b : List Int) (L : List (Nat × Nat × Nat)) {k : Nat} (hk : k < L.length) : chsR xc yc b (L.take (k + 1)) = chR xc yc b (chsR xc yc b (L.take k)) (L.getD k (0, 0, 0)) := by
  unfold chsR
  rw [List.take_add_one, List.foldl_append, List.getElem?_eq_getElem hk]
  simp [List.getD, List.getElem?_eq_getElem hk]
theorem chsR_len (xc yc : List Nat) (b : List Int) (L : List (Nat × Nat × Nat)) : ∀ k, k ≤ L.length → (chsR xc yc b (L.take k)).2.2.length ≤ k
  | 0, _ => by simp [chsR]
  | k + 1, h => by
    rw [chsR_take _ _ _ _ (by omega)]
    have := chsR_len xc yc b L k (by omega)
    unfold chR
    simp only [List.length_append]
    split <;> simp <;> omega
/-- where the loop stands behind k runs -/
theorem chsR_at {α : Type} [DecidableEq α] {x y : List α} (xc yc : List Nat) (b : List Int) : ∀ (L : List (Nat × Nat × Nat)) (i j : Nat) (A : List Dop), RunOk x y i j L → ∀ k, k ≤ L.length →
    RunOk x y ((L.take k).foldl (chR xc yc b) (i, j, A)).1 ((L.take k).foldl (chR xc yc b) (i, j, A)).2.1 (L.drop k)
  | L, i, j, A, h, 0, _ => by simpa using h
  | [], i, j, A, h, k + 1, hk => by simp at hk
  | (p, q, n) :: r, i, j, A, h, k + 1, hk => by
    have := chsR_at (x := x) (y := y) xc yc b r (p + n) (q + n) (chR xc yc b (i, j, A) (p, q, n)).2.2 h.2.2.2.2.2 k (by simpa using hk)
    simpa [chR] using this
end Go.Proofs.YtkdnanlgkedjgabDoor
end

section
namespace Go.Proofs.YtkdnanlgkedjgabDoor
open Go.ChangeShapes Go.WideShapes Go.ChangeAt Go.RowKit
attribute [local go_sem] Oper.semAt_some

def oneR (p : Nat × Nat) : Nat × Nat × Nat := (p.1, p.2, 1)
/-- what is still to come of the walk over both -/
def Ahd (x y : List Nat) (h i j : Nat) (R D : List (Nat × Nat × Nat)) : Prop := R ++ (mids (x.drop i) (y.drop j) (h + i) (h + j)).map oneR = D
theorem ahd_len {x y : List Nat} {h i j : Nat} {R D : List (Nat × Nat × Nat)} (a : Ahd x y h i j R D) : R.length ≤ D.length := by
  rw [← a]; simp
theorem ahd_same {x y : List Nat} {h i j : Nat} {R D : List (Nat × Nat × Nat)} (a : Ahd x y h i j R D) (hi : i < x.length) (hj : j < y.length) (e : x.getD i 0 = y.getD j 0) : Ahd x y h (i + 1) (j + 1) (R ++ [(h + i, h + j, 1)]) D := by
  unfold Ahd at a ⊢
  rw [drop_at x hi, drop_at y hj, e, mids_same] at a
  rw [← a]
  simp [oneR, Nat.add_assoc]
theorem ahd_up {x y : List Nat} {h i j : Nat} {R D : List (Nat × Nat × Nat)} (a : Ahd x y h i j R D) (hi : i < x.length) (hj : j < y.length) (e : ¬ x.getD i 0 = y.getD j 0) (g : lcs (x.drop i) (y.drop (j + 1)) ≤ lcs (x.drop (i + 1)) (y.drop j)) : Ahd x y h (i + 1) j R D := by
  unfold Ahd at a ⊢
  rw [drop_at x hi, drop_at y hj] at a g
  rw [mids_up e g, ← drop_at y hj] at a
  rw [← a, Nat.add_assoc]
theorem ahd_on {x y : List Nat} {h i j : Nat} {R D : List (Nat × Nat × Nat)} (a : Ahd x y h i j R D) (hi : i < x.length) (hj : j < y.length) (e : ¬ x.getD i 0 = y.getD j 0) (g : ¬ lcs (x.drop i) (y.drop (j + 1)) ≤ lcs (x.drop (i + 1)) (y.drop j)) : Ahd x y h i (j + 1) R D := by
  unfold Ahd at a ⊢
  rw [drop_at x hi, drop_at y hj] at a g
  rw [mids_on e g, ← drop_at x hi] at a
  rw [← a, Nat.add_assoc]
theorem le_dec {p q : Nat} (h : q ≤ p) : decide ((p : Int) ≥ (q : Int)) = true ∧ decide ((q : Int) ≤ (p : Int)) = true ∧ (q : Int) ≤ (p : Int) := ⟨decide_eq_true (by omega), decide_eq_true (by omega), by omega⟩
theorem nle_dec {p q : Nat} (h : ¬ q ≤ p) : decide ((p : Int) ≥ (q : Int)) = false ∧ decide ((q : Int) ≤ (p : Int)) = false ∧ ¬ (q : Int) ≤ (p : Int) := ⟨decide_eq_false (by omega), decide_eq_false (by omega), by omega⟩
theorem ahd_end {x y : List Nat} {h i j : Nat} {R D : List (Nat × Nat × Nat)} (a : Ahd x y h i j R D) (g : ¬ i < x.length ∨ ¬ j < y.length) : R = D := by
  unfold Ahd at a
  rcases g with g | g
  · rw [List.drop_eq_nil_of_le (by omega)] at a; simpa [mids] using a
  · rw [show y.drop j = [] from List.drop_eq_nil_of_le (by omega), mids_nil] at a; simpa using a
set_option maxRecDepth 100000 in
set_option maxHeartbeats 8000000 in
theorem common_at (a : Option Addr) (c : Nat) (x0 : List Nat) (a' : Option Addr) (c' : Nat) (y0 : List Nat) (w : World) (h : IsI w a x0) (h' : IsI w a' y0) (hc : x0.length ≤ c) (hc' : y0.length ≤ c') (hx : x0.length ≤ 2048) (hy : y0.length ≤ 2048) :
    Calls Tryd.prog 28 #[.slice a x0.length c, .slice a' y0.length c'] w fun e w' => ∃ v k, e = .returned v ∧ RA w' 3 v (runsL x0 y0).length (runsV (runsL x0 y0)) k ∧ Below w.heap.size w w' := by
  have ek : ∀ (args : Array Value) (X : World), (callFunc 59 args).run Tryd.prog X = .ok (.enter 59 args) X := enters_of Tryd.func59 (by kernel_rfl) rfl
  have HX := hide fun (X : World) (hx : Below w.heap.size w X) => h.below hx (Nat.le_refl _)
  have HY := hide fun (X : World) (hx : Below w.heap.size w X) => h'.below hx (Nat.le_refl _)
  have HC1 := hide (sameHead_at a c x0 a' c' y0 w h h' (by omega) (by omega))
  clear h h'
  have hsl := sameH_le x0 y0
  have HD : Hid (∀ (x y : List Nat) (t : Nat), sameH (x0.drop (sameH x0 y0)).reverse (y0.drop (sameH x0 y0)).reverse = t → x = (x0.drop (sameH x0 y0)).take ((x0.drop (sameH x0 y0)).length - t) → y = (y0.drop (sameH x0 y0)).take ((y0.drop (sameH x0 y0)).length - t) →
      runsL x0 y0 = [(0, 0, sameH x0 y0)] ++ (mids x y (sameH x0 y0) (sameH x0 y0)).map oneR ++ [(sameH x0 y0 + x.length, sameH x0 y0 + y.length, t)]) := hide fun x y t h1 h2 h3 => by
    unfold runsL oneR
    simp only [h1, ← h2, ← h3]
  generalize sameH x0 y0 = hd at *
  go_enter Tryd.func28, Tryd.ntmps28
  go_wp2_with fail
  refine (unhide HC1).mono ?_
  rintro e1 w1 ⟨rfl, hb1⟩
  dsimp only
  clear HC1
  have HB1 := hide hb1
  clear hb1
  have f1 : (hd : Int) ≤ (x0.length : Int) := by omega
  have f2 : (hd : Int) ≤ (y0.length : Int) := by omega
  obtain ⟨A1, hA1⟩ : ∃ A, (if c = hd then a else a.map (·.add hd)) = A := ⟨_, rfl⟩
  obtain ⟨A2, hA2⟩ : ∃ A, (if c' = hd then a' else a'.map (·.add hd)) = A := ⟨_, rfl⟩
  obtain ⟨x1, hx1⟩ : ∃ x1, x1 = x0.drop hd := ⟨_, rfl⟩
  obtain ⟨y1, hy1⟩ : ∃ y1, y1 = y0.drop hd := ⟨_, rfl⟩
  have l1 : x0.length - hd = x1.length := by rw [hx1, List.length_drop]
  have l2 : y0.length - hd = y1.length := by rw [hy1, List.length_drop]
  have HX1 : Hid (∀ X, Below w.heap.size w X → IsI X A1 x1) := hide fun X hX => by rw [← hA1, hx1]; exact (unhide HX X hX).lo hc hd
  have HY1 : Hid (∀ X, Below w.heap.size w X → IsI X A2 y1) := hide fun X hX => by rw [← hA2, hy1]; exact (unhide HY X hX).lo hc' hd
  have HL := hide (And.intro l1 l2)
  clear HX HY l1 l2
  go_wp2_with fail
  go_quiet (fail)
  clear hA1 hA2
  rw [(unhide HL).1, (unhide HL).2]
  have HB2 := hide (bdrN (unhide HB1) nq)
  have HC2 := hide (sameTail_at A1 (c - hd) x1 A2 (c' - hd) y1 (w1.drewN nq) (unhide HX1 _ (unhide HB2)) (unhide HY1 _ (unhide HB2)) (by have := (unhide HL).1; omega) (by have := (unhide HL).2; omega))
  have hst := sameH_le x1.reverse y1.reverse
  rw [List.length_reverse, List.length_reverse] at hst
  have HD1 : Hid (∀ x y : List Nat, x = x1.take (x1.length - sameH x1.reverse y1.reverse) → y = y1.take (y1.length - sameH x1.reverse y1.reverse) →
      runsL x0 y0 = [(0, 0, hd)] ++ (mids x y hd hd).map oneR ++ [(hd + x.length, hd + y.length, sameH x1.reverse y1.reverse)]) := hide fun x y h1 h2 => by
    subst hx1 hy1
    exact unhide HD x y _ rfl h1 h2
  have HCP : Hid (x1.length ≤ c - hd ∧ y1.length ≤ c' - hd ∧ x1.length ≤ 2048 ∧ y1.length ≤ 2048 ∧ hd ≤ 2048) := hide (by have := unhide HL; omega)
  clear HB1 HD hx1 hy1 hx hy hc hc' f1 f2 hsl
  generalize sameH x1.reverse y1.reverse = t at *
  generalize w1.drewN nq = w2 at *
  generalize c - hd = cx at *
  generalize c' - hd = cy at *
  go_wp2_with fail
  refine (unhide HC2).mono ?_
  rintro e2 w3 ⟨rfl, hb3⟩
  dsimp only
  have HB3 := hide ((unhide HB2).trans (hb3.mono (unhide HB2).size))
  clear HC2 hb3 HB2
  obtain ⟨n1, n2, n3, n4, n5⟩ := unhide HCP
  obtain ⟨m1, hm1⟩ : ∃ m1, m1 = x1.length - t := ⟨_, rfl⟩
  obtain ⟨m2, hm2⟩ : ∃ m2, m2 = y1.length - t := ⟨_, rfl⟩
  have e1 : IntKind.i64.wrap ((x1.length : Int) - (t : Int)) = (m1 : Int) := by rw [IntKind.wrap_i64]; omega
  have e2 : IntKind.i64.wrap ((y1.length : Int) - (t : Int)) = (m2 : Int) := by rw [IntKind.wrap_i64]; omega
  have g1 : (m1 : Int) ≤ (cx : Int) := by clear e1 e2; omega
  have g2 : (m2 : Int) ≤ (cy : Int) := by clear e1 e2; omega
  have g3 : m1 ≤ cx := by clear e1 e2; omega
  have g4 : m2 ≤ cy := by clear e1 e2; omega
  have HM := hide (And.intro hm1 hm2)
  have HT := hide hst
  clear hm1 hm2 hst
  go_wp2_with fail
  go_quiet (fail)
  clear e1 e2 g1 g2 n1 n2 n3 n4 n5
  obtain ⟨x2, hx2⟩ : ∃ x2, x2 = x1.take m1 := ⟨_, rfl⟩
  obtain ⟨y2, hy2⟩ : ∃ y2, y2 = y1.take m2 := ⟨_, rfl⟩
  have l1 : m1 = x2.length := by rw [hx2, List.length_take]; have := (unhide HM).1; omega
  have l2 : m2 = y2.length := by rw [hy2, List.length_take]; have := (unhide HM).2; omega
  have HX2 : Hid (∀ X, Below w.heap.size w X → IsI X A1 x2) := hide fun X hX => by rw [hx2]; exact (unhide HX1 X hX).take m1
  have HY2 : Hid (∀ X, Below w.heap.size w X → IsI X A2 y2) := hide fun X hX => by rw [hy2]; exact (unhide HY1 X hX).take m2
  have HD2 := hide (unhide HD1 x2 y2 (by rw [hx2, (unhide HM).1]) (by rw [hy2, (unhide HM).2]))
  have b1 : x2.length ≤ 2048 ∧ y2.length ≤ 2048 ∧ hd ≤ 2048 ∧ t ≤ 2048 := by
    have := (unhide HCP); have := unhide HT; have := (unhide HM).1; have := (unhide HM).2; omega
  subst l1 l2
  have HB4 := hide (bdrN (unhide HB3) nq)
  have HLEN := hide fun (X : World) (hX : Below w.heap.size w X) => lengths_at A1 cx x2 A2 cy y2 X (unhide HX2 X hX) (unhide HY2 X hX) b1.1 b1.2.1
  clear HX1 HY1 HD1 HM HT HCP HB3 HL g3 g4 hx2 hy2
  generalize w3.drewN nq = w4 at *
  have HB5 := hide ((unhide HB4).alloc (unhide HB4).size (.cells #[.int .i64 0, .int .i64 0, .int .i64 (hd : Int)] 69))
  have HR0 := hide (RA.one w4 0 0 hd)
  have HL5 := hide (unhide HLEN _ (unhide HB5))
  go_wp2_with fail
  refine (unhide HL5).mono ?_
  rintro e3 w6 ⟨v8, rfl, hv8, hb6⟩
  dsimp only
  obtain ⟨gS, gA, g, Q, ac, rfl, hac, hQ, hl6⟩ := hv8
  have HB6 := hide ((unhide HB5).trans (hb6.mono (unhide HB5).size))
  have K0 : CmI w w6 gS gA g Q ac x2 y2 (.slice (some ⟨w4.heap.size, 0, none⟩) 1 1) [(0, 0, hd)] := by
    refine ⟨⟨some w4.heap.size, ?_, fun G hG => ?_⟩, hl6.re (unhide HB6) (by have := (unhide HB5).size; exact this)⟩
    · refine (unhide HR0).same hb6.size fun G e hlt => hb6.block G hlt
    · cases hG
      have := hl6.n
      rw [World.size_alloc] at this
      have := (unhide HB4).size
      omega
  have H0 := hide K0
  have HQ := hide (And.intro hac hQ)
  clear K0 hac hQ hl6 hb6 HB6 HB5 HR0 HL5 HLEN HB4
  go_wp2_with fail
  clear ek
  have ek : ∀ (args : Array Value) (X : World), (callFunc 59 args).run Tryd.prog X = .ok (.enter 59 args) X := enters_of Tryd.func59 (by kernel_rfl) rfl
  generalize w4.heap.size = g0 at *
  obtain ⟨D0, hD0⟩ : ∃ D0, D0 = [(0, 0, hd)] ++ (mids x2 y2 hd hd).map oneR := ⟨_, rfl⟩
  have HA0 : Hid (Ahd x2 y2 hd 0 0 [(0, 0, hd)] D0) := hide (by rw [hD0]; simp [Ahd])
  rw [← hD0] at HD2
  clear hD0
  go_loopw [7, 9, 10, 53, 77] (fun v7 v9 v10 v53 v77 wx => (∃ z, v53 = z) ∧ (∃ z, v77 = z) ∧ ∃ (i j : Nat) (R : List (Nat × Nat × Nat)), v9 = .int .i64 (i : Int) ∧ v10 = .int .i64 (j : Int) ∧ i ≤ x2.length ∧ j ≤ y2.length ∧ Hid (CmI w wx gS gA g Q ac x2 y2 v7 R ∧ Ahd x2 y2 hd i j R D0 ∧ R.length ≤ i + 1))
    (fun _ v9 v10 _ _ _ => (x2.length - (intOf v9).toNat) + (y2.length - (intOf v10).toNat))
  case atStart => exact ⟨⟨_, rfl⟩, ⟨_, rfl⟩, 0, 0, _, rfl, rfl, Nat.zero_le _, Nat.zero_le _, hide ⟨unhide H0, unhide HA0, by simp⟩⟩
  case round =>
    clear H0 HA0
    obtain ⟨⟨z1, rfl⟩, ⟨z2, rfl⟩, i, j, R, rfl, rfl, hi, hj, HI⟩ := hrel
    have HE0 : Hid ((¬ i < x2.length ∨ ¬ j < y2.length) → ∃ v' Y, (Builtin.append_ #[66, 66] 66 #[u7, .slice (some ⟨wr.heap.size, 0, none⟩) 1 1]).run Tryd.prog (wr.alloc (.cells #[.int .i64 ((hd : Int) + (x2.length : Int)), .int .i64 ((hd : Int) + (y2.length : Int)), .int .i64 (t : Int)] 69)) = .ok v' Y ∧ CmI w Y gS gA g Q ac x2 y2 v' (D0 ++ [(hd + x2.length, hd + y2.length, t)])) := hide fun g1 => by
      obtain ⟨v', Y, hr, hc⟩ := (unhide HI).1.push (hd + x2.length, hd + y2.length, t) 66 (by have := (unhide HI).2.2; omega)
      rw [ahd_end (unhide HI).2.1 g1] at hc
      exact ⟨v', Y, by rw [← Int.natCast_add, ← Int.natCast_add]; exact hr, hc⟩
    by_cases h1 : i < x2.length
    · have t1 : decide ((i : Int) < (x2.length : Int)) = true := decide_eq_true (by omega)
      by_cases h2 : j < y2.length
      · have t2 : decide ((j : Int) < (y2.length : Int)) = true := decide_eq_true (by omega)
        clear HE0 HD2
        obtain ⟨hac, hQ⟩ := unhide HQ
        have hbw := (unhide HI).1.l.b
        obtain ⟨gx, off, rfl, hgx, cx'⟩ := (unhide HX2 wr hbw).at h1
        obtain ⟨gy, off', rfl, hgy, cy'⟩ := (unhide HY2 wr hbw).at h2
        have c1 := cx' i h1
        have c2 := cy' j h2
        have f1 : (i : Int) < (x2.length : Int) := by omega
        have f2 : (j : Int) < (y2.length : Int) := by omega
        have f3 : (0 : Int) ≤ (i : Int) := by omega
        have f4 : (0 : Int) ≤ (j : Int) := by omega
        have HPU := hide fun n => ((unhide HI).1.dN n).push (hd + i, hd + j, 1) 66 (by have := (unhide HI).2.2; omega)
        have HDN := hide fun n => (unhide HI).1.dN n
        have HLN := hide fun (n : Nat) => ((unhide HI).1.dN n).l.ask hac hQ b1.1 b1.2.1 (i := i + 1) (j := j) h1 (by omega) (.inl (Nat.zero_le _))
        have HLM := hide fun (n : Nat) => ((unhide HI).1.dN n).l.ask hac hQ b1.1 b1.2.1 (i := i) (j := j + 1) (by omega) h2 (.inl (Nat.zero_le _))
        have HRL := hide (unhide HI).2.2
        have HS := hide fun e => ahd_same (unhide HI).2.1 h1 h2 e
        have HU := hide fun e g => ahd_up (unhide HI).2.1 h1 h2 e g
        have HO := hide fun e g => ahd_on (unhide HI).2.1 h1 h2 e g
        clear cx' cy' hbw hac hQ HI
        generalize lcs (x2.drop (i + 1)) (y2.drop j) = p at *
        generalize lcs (x2.drop i) (y2.drop (j + 1)) = q at *
        generalize x2.getD i 0 = X1 at *
        generalize y2.getD j 0 = Y1 at *
        by_cases e : X1 = Y1
        · have t3 : ((X1 : Int) == (Y1 : Int)) = true := by simp [e]
          have HS2 := hide (unhide HS e)
          clear HS HU HO HLN HLM HDN
          go_wp2_with fail
          go_quiet (fail)
          obtain ⟨v', Y, hr, hc⟩ := unhide HPU nq
          rw [Int.natCast_add, Int.natCast_add] at hr
          have RE := hide hr
          have HE := hide hc
          clear hr hc HPU c1 c2 hgx hgy
          go_wp2_with (at_builtin; refine wpList_append_known rfl _ _ 66 66 rfl _ _ rfl rfl _ _ (unhide RE) ?_; clear RE)
          go_roundw
          case rel => exact ⟨⟨_, rfl⟩, ⟨_, rfl⟩, i + 1, j + 1, _, by go_num, by go_num, h1, h2, hide ⟨unhide HE, unhide HS2, by have := unhide HRL; simp; omega⟩⟩
          case measure => simp [intOf]; omega
        · have t3 : ((X1 : Int) == (Y1 : Int)) = false := by simp; omega
          clear HPU HS
          go_wp2_with fail
          go_quiet (fail)
          have C1 : Calls Tryd.prog 59 #[.int .i64 ((i : Int) + 1), .int .i64 (j : Int), .pointer (some ⟨gS, 0, none⟩), .pointer (some ⟨gA, 0, none⟩)] (wr.drewN nq) _ := unhide HLN nq
          have C2 : Calls Tryd.prog 59 #[.int .i64 (i : Int), .int .i64 ((j : Int) + 1), .pointer (some ⟨gS, 0, none⟩), .pointer (some ⟨gA, 0, none⟩)] (wr.drewN nq) _ := unhide HLM nq
          have HC1 := hide C1
          have HC2 := hide C2
          have HE := hide (unhide HDN nq)
          clear HLN HLM HDN C1 C2 c1 c2 hgx hgy
          generalize wr.drewN nq = w7 at *
          by_cases g : q ≤ p
          · have t4 := le_dec g
            have HU2 := hide (unhide HU e g)
            clear HU HO
            go_wp2_with fail
            refine (unhide HC1).mono ?_
            rintro e4 v4 ⟨rfl, rfl⟩
            dsimp only
            go_wp2_with fail
            refine (unhide HC2).mono ?_
            rintro e5 v5 ⟨rfl, rfl⟩
            dsimp only
            clear HC1 HC2
            go_wp2_with fail
            go_roundw
            case rel => exact ⟨⟨_, rfl⟩, ⟨_, rfl⟩, i + 1, j, _, by go_num, rfl, h1, by omega, hide ⟨unhide HE, unhide HU2, by have := unhide HRL; omega⟩⟩
            case measure => simp [intOf]; omega
          · have t4 := nle_dec g
            have HU2 := hide (unhide HO e g)
            clear HU HO
            go_wp2_with fail
            refine (unhide HC1).mono ?_
            rintro e4 v4 ⟨rfl, rfl⟩
            dsimp only
            go_wp2_with fail
            refine (unhide HC2).mono ?_
            rintro e5 v5 ⟨rfl, rfl⟩
            dsimp only
            clear HC1 HC2
            go_wp2_with fail
            go_roundw
            case rel => exact ⟨⟨_, rfl⟩, ⟨_, rfl⟩, i, j + 1, _, rfl, by go_num, by omega, h2, hide ⟨unhide HE, unhide HU2, by have := unhide HRL; omega⟩⟩
            case measure => simp [intOf]; omega
      · have t2 : decide ((j : Int) < (y2.length : Int)) = false := decide_eq_false (by omega)
        obtain ⟨v', Y, hr, hc⟩ := unhide HE0 (.inr h2)
        have RE := hide hr
        have HE := hide hc
        clear HE0 HI hr hc
        clear HX2 HY2
        go_wp2_with (at_builtin; refine wpList_append_known rfl _ _ 66 66 rfl _ _ rfl rfl _ _ (unhide RE) ?_)
        obtain ⟨k, k1, k2⟩ := (unhide HE).r
        refine bodyPost_ret (results_tmp rfl _ _ _) rfl ⟨_, k, rfl, ?_, (unhide HE).l.b⟩
        rw [unhide HD2]
        exact k1
    · have t1 : decide ((i : Int) < (x2.length : Int)) = false := decide_eq_false (by omega)
      obtain ⟨v', Y, hr, hc⟩ := unhide HE0 (.inl h1)
      have RE := hide hr
      have HE := hide hc
      clear HE0 HI hr hc
      clear HX2 HY2
      go_wp2_with (at_builtin; refine wpList_append_known rfl _ _ 66 66 rfl _ _ rfl rfl _ _ (unhide RE) ?_)
      obtain ⟨k, k1, k2⟩ := (unhide HE).r
      refine bodyPost_ret (results_tmp rfl _ _ _) rfl ⟨_, k, rfl, ?_, (unhide HE).l.b⟩
      rw [unhide HD2]
      exact k1
end Go.Proofs.YtkdnanlgkedjgabDoor
end
