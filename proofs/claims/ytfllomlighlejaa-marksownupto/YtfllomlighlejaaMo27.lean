/- Layer 13: what the sizes' methods leave alone; eachChange (written by wip/tools/dmq.py). · Layer 13: eachChange of the sizes and of a builder; what changes that are checked come to. · Layer 13: through. · Layer 13: composed and Compose. -/
import Derived.Test.YtfllomlighlejaaMo25
import Derived.Test.YtfllomlighlejaaMo19
import Derived.Test.YtfllomlighlejaaMo26
import Derived.Deep.LoopGhost

section
namespace Go.Proofs.Ytfllomlighlejaa
open Go.ChangeShapes Go.WideShapes Go.ChangeAt Go.RowKit
attribute [local go_sem] Oper.semAt_some

set_option maxRecDepth 100000 in
set_option maxHeartbeats 1000000 in
theorem zputF_at (g f t n : Nat) (s : ByteArray) (X : World) (h : IsZ X g f t) (ht : t ≤ 268435457) (hs : s.size = n) :
    Calls Try.prog 56 #[.pointer (some ⟨g, 0, none⟩), .string s] X fun y X' => y = .returned (.tuple #[]) ∧ IsZ X' g f (satD (t + n)) ∧ Below g X X' ∧ ∀ i, i ≠ g → X'.heap[i]? = X.heap[i]? := by
  have HM := hide (more_at t n X ht)
  obtain ⟨c0, c1, f0, f1⟩ := h.cells
  have HR := hide (h.set1 (satD (t + n)))
  have HB := hide (And.intro ((Below.refl g X).setCell (p := ⟨g, 1, none⟩) (Nat.le_refl _) (.int .i64 (satD (t + n) : Int))) (fun (i : Nat) (hi : i ≠ g) => Below.heap_setCell X ⟨g, 1, none⟩ (.int .i64 (satD (t + n) : Int)) i hi))
  generalize satD (t + n) = M at *
  clear h ht c0 f0
  go_enter Try.func56, Try.ntmps56
  go_wp2_with fail
  refine (unhide HM).mono ?_
  rintro y X' ⟨rfl, rfl⟩
  dsimp only
  clear HM
  go_wp2_with fail
  exact bodyPost_end (v := .tuple #[]) (results_none Try.results56 _ _ _) rfl ⟨rfl, unhide HR, unhide HB⟩
set_option maxRecDepth 100000 in
set_option maxHeartbeats 1000000 in
theorem zdropF_at (g f t n : Nat) (X : World) (h : IsZ X g f t) (ht : f ≤ 268435457) :
    Calls Try.prog 57 #[.pointer (some ⟨g, 0, none⟩), .int .i64 (n : Int)] X fun y X' => y = .returned (.tuple #[]) ∧ IsZ X' g (satD (f + n)) t ∧ Below g X X' ∧ ∀ i, i ≠ g → X'.heap[i]? = X.heap[i]? := by
  have HM := hide (more_at f n X ht)
  obtain ⟨c0, c1, f0, f1⟩ := h.cells
  have HR := hide (h.set0 (satD (f + n)))
  have HB := hide (And.intro ((Below.refl g X).setCell (p := ⟨g, 0, none⟩) (Nat.le_refl _) (.int .i64 (satD (f + n) : Int))) (fun (i : Nat) (hi : i ≠ g) => Below.heap_setCell X ⟨g, 0, none⟩ (.int .i64 (satD (f + n) : Int)) i hi))
  generalize satD (f + n) = M at *
  clear h ht c1 f1
  go_enter Try.func57, Try.ntmps57
  go_wp2_with fail
  refine (unhide HM).mono ?_
  rintro y X' ⟨rfl, rfl⟩
  dsimp only
  clear HM
  go_wp2_with fail
  exact bodyPost_end (v := .tuple #[]) (results_none Try.results57 _ _ _) rfl ⟨rfl, unhide HR, unhide HB⟩
set_option maxRecDepth 100000 in
set_option maxHeartbeats 2000000 in
theorem zkeepF_at (g f t n : Nat) (X : World) (h : IsZ X g f t) (hf : f ≤ 268435457) (ht : t ≤ 268435457) :
    Calls Try.prog 55 #[.pointer (some ⟨g, 0, none⟩), .int .i64 (n : Int)] X fun y X' => y = .returned (.tuple #[]) ∧ IsZ X' g (satD (f + n)) (satD (t + n)) ∧ Below g X X' ∧ ∀ i, i ≠ g → X'.heap[i]? = X.heap[i]? := by
  have HM := hide fun (Y : World) => more_at f n Y hf
  have HN := hide fun (Y : World) => more_at t n Y ht
  have hz : IsZ X.drew g f t := h
  obtain ⟨c0, c1, f0, f1⟩ := hz.cells
  obtain ⟨_, e1, _, k1⟩ := (hz.set0 (satD (f + n))).cells
  have HS0 := hide (And.intro c0 c1)
  have HR := hide ((hz.set0 (satD (f + n))).set1 (satD (t + n)))
  have HB := hide (And.intro ((((Below.refl g X).drew).setCell (p := ⟨g, 0, none⟩) (Nat.le_refl _) (.int .i64 (satD (f + n) : Int))).setCell (p := ⟨g, 1, none⟩) (Nat.le_refl _) (.int .i64 (satD (t + n) : Int))) (fun (i : Nat) (hi : i ≠ g) => show _ = X.heap[i]? from (Below.heap_setCell (X.drew.setCell ⟨g, 0, none⟩ (.int .i64 (satD (f + n) : Int))) ⟨g, 1, none⟩ (.int .i64 (satD (t + n) : Int)) i hi).trans ((Below.heap_setCell X.drew ⟨g, 0, none⟩ (.int .i64 (satD (f + n) : Int)) i hi).trans rfl)))
  generalize satD (f + n) = M at *
  generalize satD (t + n) = M' at *
  clear h hf ht hz
  go_enter Try.func55, Try.ntmps55
  go_wp2_with fail
  refine regionL (S := fun w' => w'.cell? ⟨g, 0, none⟩ = some (.int .i64 (f : Int)) ∧ w'.cell? ⟨g, 1, none⟩ = some (.int .i64 (t : Int))) (fun i => i == 1 || i == 16 || i == 17 || i == 18 || i == 19) (by kernel_rfl) ?_
  generalize X.drew = Z at *
  refine anyL_free (i := 1) (v := ?vzkf0) rfl (by kernel_rfl) (by kernel_rfl) (by kernel_rfl) rfl (fun _ _ _ h => h) (Or.inl ⟨by rfl, ?hzkf0⟩) ?_
  case hzkf0 => (intro w hSw; go_simp) <;> with_reducible rfl
  simp only [Act.put, List.getElem_toArray, List.getElem_cons_zero, List.getElem_cons_succ, List.setIfInBounds_toArray, List.set_cons_zero, List.set_cons_succ]
  refine anyL_take2 (i := 0) (v := ?vzk1) rfl (by kernel_rfl) (by kernel_rfl) (by kernel_rfl) (by kernel_rfl) (fun _ _ _ h => h) (Or.inl ⟨by rfl, ?hzk1⟩) (unhide HS0) ?_
  case hzk1 => (intro w hSw; (try dsimp only at hSw); go_simp) <;> with_reducible rfl
  simp only [Act.put, List.getElem_toArray, List.getElem_cons_zero, List.setIfInBounds_toArray, List.set_cons_zero, List.set_cons_succ]
  refine anyL_take2 (i := 2) (v := ?vzk2) rfl (by kernel_rfl) (by kernel_rfl) (by kernel_rfl) (by kernel_rfl) (fun _ _ _ h => h) (Or.inl ⟨by rfl, ?hzk2⟩) (unhide HS0) ?_
  case hzk2 => (intro w hSw; (try dsimp only at hSw); go_simp) <;> with_reducible rfl
  simp only [Act.put, List.getElem_toArray, List.getElem_cons_zero, List.getElem_cons_succ, List.setIfInBounds_toArray, List.set_cons_zero, List.set_cons_succ]
  refine anyL_take2 (i := 3) (v := ?vzk3) rfl (by kernel_rfl) (by kernel_rfl) (by kernel_rfl) (by kernel_rfl) (fun _ _ _ h => h) (Or.inl ⟨by rfl, ?hzk3⟩) (unhide HS0) ?_
  case hzk3 => (intro w hSw; (try dsimp only at hSw); go_simp) <;> with_reducible rfl
  simp only [Act.put, List.getElem_toArray, List.getElem_cons_zero, List.getElem_cons_succ, List.setIfInBounds_toArray, List.set_cons_zero, List.set_cons_succ]
  refine anyL_take2 (i := 4) (v := ?vzk4) rfl (by kernel_rfl) (by kernel_rfl) (by kernel_rfl) (by kernel_rfl) (fun _ _ _ h => h) (Or.inl ⟨by rfl, ?hzk4⟩) (unhide HS0) ?_
  case hzk4 => (intro w hSw; (try dsimp only at hSw); go_simp) <;> with_reducible rfl
  simp only [Act.put, List.getElem_toArray, List.getElem_cons_zero, List.getElem_cons_succ, List.setIfInBounds_toArray, List.set_cons_zero, List.set_cons_succ]
  refine anyL_take2 (i := 5) (v := ?vzk5) rfl (by kernel_rfl) (by kernel_rfl) (by kernel_rfl) (by kernel_rfl) (fun _ _ _ h => h) (Or.inl ⟨by rfl, ?hzk5⟩) (unhide HS0) ?_
  case hzk5 => (intro w hSw; (try dsimp only at hSw); go_simp) <;> with_reducible rfl
  simp only [Act.put, List.getElem_toArray, List.getElem_cons_zero, List.getElem_cons_succ, List.setIfInBounds_toArray, List.set_cons_zero, List.set_cons_succ]
  refine anyL_take2 (i := 6) (v := ?vzk6) rfl (by kernel_rfl) (by kernel_rfl) (by kernel_rfl) (by kernel_rfl) (fun _ _ _ h => h) (Or.inl ⟨by rfl, ?hzk6⟩) (unhide HS0) ?_
  case hzk6 => (intro w hSw; (try dsimp only at hSw); go_simp) <;> with_reducible rfl
  simp only [Act.put, List.getElem_toArray, List.getElem_cons_zero, List.getElem_cons_succ, List.setIfInBounds_toArray, List.set_cons_zero, List.set_cons_succ]
  refine anyL_take2 (i := 8) (v := ?vzk7) rfl (by kernel_rfl) (by kernel_rfl) (by kernel_rfl) (by kernel_rfl) (fun _ _ _ h => h) (Or.inl ⟨by rfl, ?hzk7⟩) (unhide HS0) ?_
  case hzk7 => (intro w hSw; (try dsimp only at hSw); go_simp) <;> with_reducible rfl
  simp only [Act.put, List.getElem_toArray, List.getElem_cons_zero, List.getElem_cons_succ, List.setIfInBounds_toArray, List.set_cons_zero, List.set_cons_succ]
  refine anyL_take2 (i := 9) (v := ?vzk8) rfl (by kernel_rfl) (by kernel_rfl) (by kernel_rfl) (by kernel_rfl) (fun _ _ _ h => h) (Or.inl ⟨by rfl, ?hzk8⟩) (unhide HS0) ?_
  case hzk8 => (intro w hSw; (try dsimp only at hSw); go_simp) <;> with_reducible rfl
  simp only [Act.put, List.getElem_toArray, List.getElem_cons_zero, List.getElem_cons_succ, List.setIfInBounds_toArray, List.set_cons_zero, List.set_cons_succ]
  refine anyL_take2 (i := 10) (v := ?vzk9) rfl (by kernel_rfl) (by kernel_rfl) (by kernel_rfl) (by kernel_rfl) (fun _ _ _ h => h) (Or.inl ⟨by rfl, ?hzk9⟩) (unhide HS0) ?_
  case hzk9 => (intro w hSw; (try dsimp only at hSw); go_simp) <;> with_reducible rfl
  simp only [Act.put, List.getElem_toArray, List.getElem_cons_zero, List.getElem_cons_succ, List.setIfInBounds_toArray, List.set_cons_zero, List.set_cons_succ]
  refine anyL_take2 (i := 11) (v := ?vzk10) rfl (by kernel_rfl) (by kernel_rfl) (by kernel_rfl) (by kernel_rfl) (fun _ _ _ h => h) (Or.inl ⟨by rfl, ?hzk10⟩) (unhide HS0) ?_
  case hzk10 => (intro w hSw; (try dsimp only at hSw); go_simp) <;> with_reducible rfl
  simp only [Act.put, List.getElem_toArray, List.getElem_cons_zero, List.getElem_cons_succ, List.setIfInBounds_toArray, List.set_cons_zero, List.set_cons_succ]
  refine anyL_take2 (i := 12) (v := ?vzk11) rfl (by kernel_rfl) (by kernel_rfl) (by kernel_rfl) (by kernel_rfl) (fun _ _ _ h => h) (Or.inl ⟨by rfl, ?hzk11⟩) (unhide HS0) ?_
  case hzk11 => (intro w hSw; (try dsimp only at hSw); go_simp) <;> with_reducible rfl
  simp only [Act.put, List.getElem_toArray, List.getElem_cons_zero, List.getElem_cons_succ, List.setIfInBounds_toArray, List.set_cons_zero, List.set_cons_succ]
  refine anyL_ready (rs := [7]) (by kernel_rfl) (by simp) ?_
  refine AllL.cons rfl (fun K hK => ?_) AllL.nil
  go_simp
  refine (unhide HM _).mono ?_
  rintro e w' ⟨rfl, rfl⟩
  refine unhide hK _ _ (fun _ => unhide HS0) ?_
  clear hK K
  refine anyL_ready (rs := [13]) (by kernel_rfl) (by simp) ?_
  refine AllL.cons rfl (fun K hK => ?_) AllL.nil
  go_simp
  refine (unhide HN _).mono ?_
  rintro e w' ⟨rfl, rfl⟩
  refine unhide hK _ _ (fun _ => unhide HS0) ?_
  clear hK K
  refine anyL_take2 (i := 14) (v := ?vzk12) rfl (by kernel_rfl) (by kernel_rfl) (by kernel_rfl) (by kernel_rfl) (fun _ _ _ h => h) (Or.inl ⟨by rfl, ?hzk12⟩) (unhide HS0) ?_
  case hzk12 => (intro w hSw; (try dsimp only at hSw); go_simp) <;> with_reducible rfl
  simp only [Act.put, List.getElem_toArray, List.getElem_cons_zero, List.getElem_cons_succ, List.setIfInBounds_toArray, List.set_cons_zero, List.set_cons_succ]
  refine anyL_take2 (i := 15) (v := ?vzk13) rfl (by kernel_rfl) (by kernel_rfl) (by kernel_rfl) (by kernel_rfl) (fun _ _ _ h => h) (Or.inl ⟨by rfl, ?hzk13⟩) (unhide HS0) ?_
  case hzk13 => (intro w hSw; (try dsimp only at hSw); go_simp) <;> with_reducible rfl
  simp only [Act.put, List.getElem_toArray, List.getElem_cons_zero, List.getElem_cons_succ, List.setIfInBounds_toArray, List.set_cons_zero, List.set_cons_succ]
  refine anyL_ready (rs := [16]) (by kernel_rfl) (by simp) ?_
  refine AllL.cons rfl (fun K hK => ?_) AllL.nil
  go_simp
  refine unhide hK _ _ (fun h => by cases h) ?_
  clear hK K
  refine anyL_free (i := 17) (v := ?vzkf14) rfl (by kernel_rfl) (by kernel_rfl) (by kernel_rfl) rfl (fun _ _ _ h => h) (Or.inl ⟨by rfl, ?hzkf14⟩) ?_
  case hzkf14 => (intro w hSw; go_simp) <;> with_reducible rfl
  simp only [Act.put, List.getElem_toArray, List.getElem_cons_zero, List.getElem_cons_succ, List.setIfInBounds_toArray, List.set_cons_zero, List.set_cons_succ]
  refine anyL_free (i := 18) (v := ?vzkf15) rfl (by kernel_rfl) (by kernel_rfl) (by kernel_rfl) rfl (fun _ _ _ h => h) (Or.inl ⟨by rfl, ?hzkf15⟩) ?_
  case hzkf15 => (intro w hSw; go_simp) <;> with_reducible rfl
  simp only [Act.put, List.getElem_toArray, List.getElem_cons_zero, List.getElem_cons_succ, List.setIfInBounds_toArray, List.set_cons_zero, List.set_cons_succ]
  refine anyL_ready (rs := [19]) (by kernel_rfl) (by simp) ?_
  refine AllL.cons rfl (fun K hK => ?_) AllL.nil
  go_simp
  refine unhide hK _ _ (fun h => by cases h) ?_
  clear hK K
  refine anyL_done (by kernel_rfl) ?_ _
  exact bodyPost_end (v := .tuple #[]) (results_none Try.results55 _ _ _) rfl ⟨rfl, unhide HR, unhide HB⟩

/-- where the next change finds the old text: behind the last one -/
def lstC : Int → List Dop → Int
  | p, [] => p
  | _, c :: r => lstC c.n r
/-- changes as operations -/
def opC : Int → List Dop → List Dop
  | _, [] => []
  | p, c :: r => ⟨1, c.k - p, []⟩ :: ⟨2, 0, c.t⟩ :: ⟨3, c.n - c.k, []⟩ :: opC c.n r
def opsC (n : Int) (cs : List Dop) : List Dop := opC 0 cs ++ [⟨1, n - lstC 0 cs, []⟩]
theorem opC_len : ∀ (p : Int) (cs : List Dop), (opC p cs).length = cs.length * 3
  | _, [] => rfl
  | p, c :: r => by simp only [opC, List.length_cons, opC_len c.n r]; omega
theorem opsC_len (n : Int) (cs : List Dop) : (opsC n cs).length = cs.length * 3 + 1 := by simp [opsC, opC_len]
theorem opC_get : ∀ (p : Int) (cs : List Dop) (k : Nat), k < cs.length → (opC p cs)[k * 3]? = some ⟨1, (cs.getD k opZ).k - lstC p (cs.take k), []⟩ ∧ (opC p cs)[k * 3 + 1]? = some ⟨2, 0, (cs.getD k opZ).t⟩ ∧ (opC p cs)[k * 3 + 2]? = some ⟨3, (cs.getD k opZ).n - (cs.getD k opZ).k, []⟩
  | _, [], k, hk => absurd hk (by simp)
  | p, c :: r, 0, _ => by simp [opC, lstC]
  | p, c :: r, k + 1, hk => by
    have ih := opC_get c.n r k (by simpa using hk)
    rw [show (k + 1) * 3 = k * 3 + 3 by omega]
    simpa [opC, lstC] using ih
theorem opsC_get (n : Int) (cs : List Dop) {k : Nat} (hk : k < cs.length) : (opsC n cs).getD (k * 3) opZ = ⟨1, (cs.getD k opZ).k - lstC 0 (cs.take k), []⟩ ∧ (opsC n cs).getD (k * 3 + 1) opZ = ⟨2, 0, (cs.getD k opZ).t⟩ ∧ (opsC n cs).getD (k * 3 + 2) opZ = ⟨3, (cs.getD k opZ).n - (cs.getD k opZ).k, []⟩ := by
  obtain ⟨h1, h2, h3⟩ := opC_get 0 cs k hk
  have hl := opC_len 0 cs
  unfold opsC List.getD
  rw [List.getElem?_append_left (by omega), List.getElem?_append_left (by omega), List.getElem?_append_left (by omega), h1, h2, h3]
  exact ⟨rfl, rfl, rfl⟩
theorem opsC_last (n : Int) (cs : List Dop) : (opsC n cs).getD (cs.length * 3) opZ = ⟨1, n - lstC 0 cs, []⟩ := by
  have hl := opC_len 0 cs
  unfold opsC List.getD
  rw [List.getElem?_append_right (by omega), hl]
  simp
theorem lstC_take : ∀ (p : Int) (cs : List Dop) (k : Nat), k < cs.length → lstC p (cs.take (k + 1)) = (cs.getD k opZ).n
  | _, [], k, hk => absurd hk (by simp)
  | p, c :: r, 0, _ => by simp [lstC]
  | p, c :: r, k + 1, hk => by
    have ih := lstC_take c.n r k (by simpa using hk)
    simpa [lstC] using ih
/-- the arithmetic of eachChange stays within bounds -/
structure OkC (n : Int) (cs : List Dop) : Prop where
  z : 0 ≤ n ∧ n ≤ 268435456
  c : ∀ k, k < cs.length → 0 ≤ lstC 0 (cs.take k) ∧ lstC 0 (cs.take k) ≤ (cs.getD k opZ).k ∧ (cs.getD k opZ).k ≤ (cs.getD k opZ).n ∧ (cs.getD k opZ).n ≤ n
  l : 0 ≤ lstC 0 cs ∧ lstC 0 cs ≤ n
end Go.Proofs.Ytfllomlighlejaa
end

section
namespace Go.Proofs.Ytfllomlighlejaa
open Go.ChangeShapes Go.WideShapes Go.ChangeAt Go.RowKit
attribute [local go_sem] Oper.semAt_some

/-- changes in order, within n bytes -/
def okL : Int → List Dop → Int → Prop
  | p, [], n => p ≤ n
  | p, c :: r, n => p ≤ c.k ∧ c.k ≤ c.n ∧ c.n ≤ n ∧ okL c.n r n
theorem okL_of : ∀ (cs : List Dop) (p n : Int), p ≤ n → (∀ c, cs.head? = some c → p ≤ c.k) → (∀ k, k < cs.length → (cs.getD k opZ).k ≤ (cs.getD k opZ).n ∧ (cs.getD k opZ).n ≤ n) → (∀ k, k + 1 < cs.length → ¬ (cs.getD (k + 1) opZ).k < (cs.getD k opZ).n) → okL p cs n
  | [], _, _, h, _, _, _ => h
  | c :: r, p, n, h, h1, h2, h3 => by
    have e := h2 0 (by simp)
    simp only [List.getD, List.getElem?_cons_zero, Option.getD_some] at e
    refine ⟨h1 c rfl, e.1, e.2, okL_of r c.n n e.2 (fun d hd => ?_) (fun k hk => ?_) (fun k hk => ?_)⟩
    · cases r with
      | nil => simp at hd
      | cons d' r' =>
        simp only [List.head?_cons, Option.some.injEq] at hd
        subst hd
        have := h3 0 (by simp)
        simp at this
        omega
    · have := h2 (k + 1) (by simpa using hk)
      simpa using this
    · have := h3 (k + 1) (by simpa using hk)
      simpa using this
theorem okL_at : ∀ (cs : List Dop) (p n : Int), okL p cs n → ∀ k, k < cs.length → p ≤ lstC p (cs.take k) ∧ lstC p (cs.take k) ≤ (cs.getD k opZ).k ∧ (cs.getD k opZ).k ≤ (cs.getD k opZ).n ∧ (cs.getD k opZ).n ≤ n
  | [], _, _, _, k, hk => absurd hk (by simp)
  | c :: r, p, n, ⟨h1, h2, h3, _⟩, 0, _ => by simp [lstC]; omega
  | c :: r, p, n, ⟨h1, h2, h3, h4⟩, k + 1, hk => by
    have := okL_at r c.n n h4 k (by simpa using hk)
    simp [lstC] at this ⊢
    omega
theorem okL_end : ∀ (cs : List Dop) (p n : Int), okL p cs n → p ≤ lstC p cs ∧ lstC p cs ≤ n
  | [], _, _, h => ⟨Int.le_refl _, h⟩
  | c :: r, p, n, ⟨h1, h2, h3, h4⟩ => by
    have := okL_end r c.n n h4
    simp only [lstC]
    omega
theorem okC_of {cs : List Dop} {n : Int} (hn : 0 ≤ n ∧ n ≤ 268435456) (h : okL 0 cs n) : OkC n cs :=
  ⟨hn, fun k hk => okL_at cs 0 n h k hk, okL_end cs 0 n h⟩
/-- by how much longer the text gets -/
def dlC : List Dop → Int
  | [] => 0
  | c :: r => ((c.t.length : Int) - (c.n - c.k)) + dlC r
theorem dlC_take : ∀ (cs : List Dop) (k : Nat), k < cs.length → dlC (cs.take (k + 1)) = dlC (cs.take k) + (((cs.getD k opZ).t.length : Int) - ((cs.getD k opZ).n - (cs.getD k opZ).k))
  | [], k, hk => absurd hk (by simp)
  | c :: r, 0, _ => by simp [dlC]
  | c :: r, k + 1, hk => by
    have := dlC_take r k (by simpa using hk)
    simp only [List.take_succ_cons, dlC, this]
    simp
    omega
theorem frD_cons (o : Dop) (d : List Dop) : frD (o :: d) = frN o + frD d := by simp [frD]
theorem toD_cons (o : Dop) (d : List Dop) : toD (o :: d) = toN o + toD d := by simp [toD]
theorem frD_app (d e : List Dop) : frD (d ++ e) = frD d + frD e := by simp [frD]
theorem toD_app (d e : List Dop) : toD (d ++ e) = toD d + toD e := by simp [toD]
theorem opC_sizes : ∀ (cs : List Dop) (p n : Int), okL p cs n → (frD (opC p cs) : Int) = lstC p cs - p ∧ (toD (opC p cs) : Int) = lstC p cs - p + dlC cs
  | [], p, _, _ => by simp [opC, lstC, dlC, frD, toD]
  | c :: r, p, n, ⟨h1, h2, h3, h4⟩ => by
    obtain ⟨i1, i2⟩ := opC_sizes r c.n n h4
    simp only [opC, frD_cons, toD_cons, lstC, dlC]
    simp [frN, toN]
    omega
theorem opsC_sizes {cs : List Dop} {n : Int} (h : okL 0 cs n) : (frD (opsC n cs) : Int) = n ∧ (toD (opsC n cs) : Int) = n + dlC cs := by
  obtain ⟨i1, i2⟩ := opC_sizes cs 0 n h
  have := okL_end cs 0 n h
  simp only [opsC, frD_app, toD_app]
  have e1 : frD [(⟨1, n - lstC 0 cs, []⟩ : Dop)] = (n - lstC 0 cs).toNat := by simp [frD, frN]
  have e2 : toD [(⟨1, n - lstC 0 cs, []⟩ : Dop)] = (n - lstC 0 cs).toNat := by simp [toD, toN]
  rw [e1, e2]
  omega
theorem opC_ok : ∀ (cs : List Dop) (p n : Int), okL p cs n → ∀ o ∈ opC p cs, (o.k = 1 ∨ o.k = 2 ∨ o.k = 3) ∧ 0 ≤ o.n
  | [], _, _, _, o, ho => by simp [opC] at ho
  | c :: r, p, n, ⟨h1, h2, h3, h4⟩, o, ho => by
    simp only [opC, List.mem_cons] at ho
    rcases ho with rfl | rfl | rfl | ho
    · exact ⟨.inl rfl, by dsimp only; omega⟩
    · exact ⟨.inr (.inl rfl), by dsimp only; omega⟩
    · exact ⟨.inr (.inr rfl), by dsimp only; omega⟩
    · exact opC_ok r c.n n h4 o ho
theorem opsC_ok {cs : List Dop} {n : Int} (h : okL 0 cs n) : ∀ o ∈ opsC n cs, (o.k = 1 ∨ o.k = 2 ∨ o.k = 3) ∧ 0 ≤ o.n := by
  intro o ho
  rcases List.mem_append.1 ho with ho | ho
  · exact opC_ok cs 0 n h o ho
  · simp at ho; subst ho; have := okL_end cs 0 n h; exact ⟨.inl rfl, by dsimp only; omega⟩
/-- what lies elsewhere, told to a builder -/
def rQ (q : Nat) (t : Array Value) : Nat → Option Value := fun j => if j = 0 then some (.agg t) else if j = 1 then some (.int .i64 (q : Int)) else none
theorem rQ_far (q : Nat) (t : Array Value) {j : Nat} (h : 4 ≤ j) : rQ q t j = none := by unfold rQ; rw [if_neg (by omega), if_neg (by omega)]
end Go.Proofs.Ytfllomlighlejaa
end

section
namespace Go.Proofs.Ytfllomlighlejaa
open Go.ChangeShapes Go.WideShapes Go.ChangeAt Go.RowKit
theorem feed_k (b : Bld) (n : Nat) : feedA b (List.replicate n .k) = b.keep n := by
  have := op_atoms b ⟨1, (n : Int), []⟩
  rw [op_keep rfl] at this
  simpa [opA] using this.symm
theorem feed_d (b : Bld) (n : Nat) : feedA b (List.replicate n .d) = b.drop n := by
  have := op_atoms b ⟨3, (n : Int), []⟩
  rw [op_drop rfl] at this
  simpa [opA] using this.symm
theorem feed_p (b : Bld) (t : List Int) : feedA b (t.map .p) = b.put t := by
  have := op_atoms b ⟨2, 0, t⟩
  rw [op_put rfl] at this
  simpa [opA] using this.symm
/-- what comes of a run of both -/
def outT (kf kt : Int) (t : List Int) (n : Nat) : List Atm := if kf = 2 then (if kt = 1 then t.map .p else []) else (if kt = 1 then List.replicate n .k else List.replicate n .d)
end Go.Proofs.Ytfllomlighlejaa
end

section
namespace Go.Proofs.Ytfllomlighlejaa
open Go.ChangeShapes Go.WideShapes Go.ChangeAt Go.RowKit
theorem run_len (k : Int) (t : List Int) (n : Nat) (h : k = 2 → t.length = n) : (runR k t n).length = n := by
  unfold runR
  split
  · simp
  · split
    · rename_i h2; simp [h h2]
    · simp
theorem run_sizes (k : Int) (t : List Int) (n : Nat) (h : k = 2 → t.length = n) : (k = 1 → frA (runR k t n) = n ∧ toA (runR k t n) = n) ∧ (k = 2 → frA (runR k t n) = 0 ∧ toA (runR k t n) = n) ∧ (k = 3 → frA (runR k t n) = n ∧ toA (runR k t n) = 0) := by
  refine ⟨fun hk => ?_, fun hk => ?_, fun hk => ?_⟩
  · subst hk; exact fr_rep_k n
  · subst hk; have := fr_map_p t; rw [h rfl] at this; exact this
  · subst hk; exact fr_rep_d n
theorem rem_head {o : Dop} {r : List Dop} {u : Nat} (h : RdK (o :: r) u) (hk : o.k ≠ 3) : ∀ x, (remA (o :: r) u).head? = some x → x ≠ .d := by
  have hu := rdK_hd h
  obtain ⟨e1, _, e3⟩ := rem_run h (n := 1) ⟨Nat.le_refl _, by simp only [lfR]; omega⟩
  rw [e1]
  intro x hx hd
  subst hd
  unfold runR at hx
  split at hx
  · simp at hx
  · split at hx
    · rename_i h2
      have := e3 h2
      cases ht : txR (o :: r) u 1 with
      | nil => rw [ht] at this; simp at this
      | cons y ys => rw [ht] at hx; simp at hx
    · rename_i h1 h2
      rcases h.p o (by simp) with ⟨h3 | h3, _⟩ | ⟨h3, _⟩
      · exact h1 h3
      · exact hk h3
      · exact h2 h3
theorem fr_pos {p : Dop} {rt : List Dop} {ut : Nat} (h : RdK (p :: rt) ut) (hk : p.k ≠ 2) : 1 ≤ frA (remA (p :: rt) ut) := by
  have hu := rdK_hd h
  obtain ⟨e1, _, e3⟩ := rem_run h (n := 1) ⟨Nat.le_refl _, by simp only [lfR]; omega⟩
  have s := run_sizes p.k _ 1 e3
  rw [e1, fr_app]
  rcases h.p p (by simp) with ⟨h3 | h3, _⟩ | ⟨h3, _⟩
  · rw [(s.1 h3).1]; omega
  · rw [(s.2.2 h3).1]; omega
  · exact absurd h3 hk
theorem to_pos {o : Dop} {rf : List Dop} {uf : Nat} (h : RdK (o :: rf) uf) (hk : o.k ≠ 3) : 1 ≤ toA (remA (o :: rf) uf) := by
  have hu := rdK_hd h
  obtain ⟨e1, _, e3⟩ := rem_run h (n := 1) ⟨Nat.le_refl _, by simp only [lfR]; omega⟩
  have s := run_sizes o.k _ 1 e3
  rw [e1, to_app]
  rcases h.p o (by simp) with ⟨h3 | h3, _⟩ | ⟨h3, _⟩
  · rw [(s.1 h3).2]; omega
  · exact absurd h3 hk
  · rw [(s.2.1 h3).2]; omega
/-- what Compose answers -/
def cmE (d e : List Dop) : Int := if valB d && valB e then (if toD d = frD e then 0 else 131) else 130
def cmD (d e : List Dop) : List Dop := if cmE d e = 0 then canA (cmpA (dA d) (dA e)) else []
theorem cmE_cases (d e : List Dop) : ((valB d = false ∨ valB e = false) ∧ cmE d e = 130) ∨ (valB d = true ∧ valB e = true ∧ toD d ≠ frD e ∧ cmE d e = 131) ∨ (valB d = true ∧ valB e = true ∧ toD d = frD e ∧ cmE d e = 0) := by
  unfold cmE
  cases h1 : valB d <;> cases h2 : valB e <;> simp
  by_cases h : toD d = frD e <;> simp [h]
theorem val_rdK {d : List Dop} (h : valB d = true) : RdK d 0 := by
  have hp : ∀ o ∈ d, Pln o := fun o ho => by
    rcases valB_op h ho with ⟨h1, h2, h3⟩ | ⟨h1, h2, h3⟩
    · exact .inl ⟨h1, h2, h3⟩
    · exact .inr ⟨h1, h2, h3⟩
  refine ⟨hp, fun o ho => ?_, ?_⟩
  · have h1 := dA_len (valB_k h)
    have h2 := (valB_nn h).2
    have h3 : (opA o).length ≤ (dA d).length := by
      obtain ⟨x, y, rfl⟩ := List.append_of_mem ho
      rw [dA_app, dA_cons, List.length_append, List.length_append]; omega
    unfold szO; omega
  · cases d with
    | nil => exact .inl ⟨rfl, rfl⟩
    | cons o r => exact .inr ⟨o, r, rfl, (szO_i (hp o (by simp))).2⟩
theorem cmp_sizes {d e : List Dop} (h : valB d = true) (h' : valB e = true) (hf : toD d = frD e) : toA (dA d) = frA (dA e) ∧ frA (cmpA (dA d) (dA e)) = frD d ∧ toA (cmpA (dA d) (dA e)) = toD e ∧ (cmpA (dA d) (dA e)).length ≤ 536870912 := by
  have h1 := frA_dA (valB_k h)
  have h2 := frA_dA (valB_k h')
  have h3 := fr_cmp (dA d) (dA e) (by omega)
  have h4 := len_frto (cmpA (dA d) (dA e))
  have h5 := (valB_nn h).2
  have h6 := (valB_nn h').2
  exact ⟨by omega, by omega, by omega, by omega⟩
end Go.Proofs.Ytfllomlighlejaa
end
