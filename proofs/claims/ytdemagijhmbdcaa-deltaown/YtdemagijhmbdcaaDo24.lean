/- Layer 13: what the sizes' methods leave alone; eachChange (written by wip/tools/dmq.py). · Layer 13: eachChange of the sizes and of a builder; what changes that are checked come to. -/
import Derived.Test.YtdemagijhmbdcaaDo20
import Derived.Test.YtdemagijhmbdcaaDo15
import Derived.Test.YtdemagijhmbdcaaDo22

section
namespace Go.Proofs.Ytdemagijhmbdcaa
open Go.ChangeShapes Go.WideShapes Go.ChangeAt Go.RowKit
attribute [local go_sem] Oper.semAt_some

set_option maxRecDepth 100000 in
set_option maxHeartbeats 1000000 in
theorem zputF_at (g f t n : Nat) (s : ByteArray) (X : World) (h : IsZ X g f t) (ht : t ≤ 268435457) (hs : s.size = n) :
    Calls Try.prog 46 #[.pointer (some ⟨g, 0, none⟩), .string s] X fun y X' => y = .returned (.tuple #[]) ∧ IsZ X' g f (satD (t + n)) ∧ Below g X X' ∧ ∀ i, i ≠ g → X'.heap[i]? = X.heap[i]? := by
  have HM := hide (more_at t n X ht)
  obtain ⟨c0, c1, f0, f1⟩ := h.cells
  have HR := hide (h.set1 (satD (t + n)))
  have HB := hide (And.intro ((Below.refl g X).setCell (p := ⟨g, 1, none⟩) (Nat.le_refl _) (.int .i64 (satD (t + n) : Int))) (fun (i : Nat) (hi : i ≠ g) => Below.heap_setCell X ⟨g, 1, none⟩ (.int .i64 (satD (t + n) : Int)) i hi))
  generalize satD (t + n) = M at *
  clear h ht c0 f0
  go_enter Try.func46, Try.ntmps46
  go_wp2_with fail
  refine (unhide HM).mono ?_
  rintro y X' ⟨rfl, rfl⟩
  dsimp only
  clear HM
  go_wp2_with fail
  exact bodyPost_end (v := .tuple #[]) (results_none Try.results46 _ _ _) rfl ⟨rfl, unhide HR, unhide HB⟩
set_option maxRecDepth 100000 in
set_option maxHeartbeats 1000000 in
theorem zdropF_at (g f t n : Nat) (X : World) (h : IsZ X g f t) (ht : f ≤ 268435457) :
    Calls Try.prog 47 #[.pointer (some ⟨g, 0, none⟩), .int .i64 (n : Int)] X fun y X' => y = .returned (.tuple #[]) ∧ IsZ X' g (satD (f + n)) t ∧ Below g X X' ∧ ∀ i, i ≠ g → X'.heap[i]? = X.heap[i]? := by
  have HM := hide (more_at f n X ht)
  obtain ⟨c0, c1, f0, f1⟩ := h.cells
  have HR := hide (h.set0 (satD (f + n)))
  have HB := hide (And.intro ((Below.refl g X).setCell (p := ⟨g, 0, none⟩) (Nat.le_refl _) (.int .i64 (satD (f + n) : Int))) (fun (i : Nat) (hi : i ≠ g) => Below.heap_setCell X ⟨g, 0, none⟩ (.int .i64 (satD (f + n) : Int)) i hi))
  generalize satD (f + n) = M at *
  clear h ht c1 f1
  go_enter Try.func47, Try.ntmps47
  go_wp2_with fail
  refine (unhide HM).mono ?_
  rintro y X' ⟨rfl, rfl⟩
  dsimp only
  clear HM
  go_wp2_with fail
  exact bodyPost_end (v := .tuple #[]) (results_none Try.results47 _ _ _) rfl ⟨rfl, unhide HR, unhide HB⟩
set_option maxRecDepth 100000 in
set_option maxHeartbeats 2000000 in
theorem zkeepF_at (g f t n : Nat) (X : World) (h : IsZ X g f t) (hf : f ≤ 268435457) (ht : t ≤ 268435457) :
    Calls Try.prog 45 #[.pointer (some ⟨g, 0, none⟩), .int .i64 (n : Int)] X fun y X' => y = .returned (.tuple #[]) ∧ IsZ X' g (satD (f + n)) (satD (t + n)) ∧ Below g X X' ∧ ∀ i, i ≠ g → X'.heap[i]? = X.heap[i]? := by
  have HM := hide fun (Y : World) => more_at f n Y hf
  have HN := hide fun (Y : World) => more_at t n Y ht
  have hz : IsZ X.drew g f t := h
  obtain ⟨c0, c1, f0, f1⟩ := hz.cells
  obtain ⟨_, e1, _, k1⟩ := (hz.set0 (satD (f + n))).cells
  have HS0 := hide (And.intro c0 c1)
  have HR := hide ((hz.set0 (satD (f + n))).set1 (satD (t + n)))
  have HB := hide (And.intro ((((Below.refl g X).drew).setCell (p := ⟨g, 0, none⟩) (Nat.le_refl _) (.int .i64 (satD (f + n) : Int))).setCell (p := ⟨g, 1, none⟩) (Nat.le_refl _) (.int .i64 (satD (t + n) : Int))) (fun (i : Nat) (hi : i ≠ g) => show _ = X.heap[i]? from (Below.heap_setCell (X.drew.setCell ⟨g, 0, none⟩ (.int .i64 (satD (f + n) : Int))) ⟨g, 1, none⟩ (.int .i64 (satD (t + n) : Int)) i hi).trans ((Below.heap_setCell X.drew ⟨g, 0, none⟩ (.int .i64 (satD (f + n) : Int)) i hi).trans rfl)))
  generalize satD (f + n) = M at *
  generalize satD (t + n) = M' at *
  clear h hf ht hz
  go_enter Try.func45, Try.ntmps45
  go_wp2_with fail
  refine regionL (S := fun w' => w'.cell? ⟨g, 0, none⟩ = some (.int .i64 (f : Int)) ∧ w'.cell? ⟨g, 1, none⟩ = some (.int .i64 (t : Int))) (fun i => i == 1 || i == 16 || i == 17 || i == 18 || i == 19) (by kernel_rfl) ?_
  generalize X.drew = Z at *
  refine anyL_free (i := 1) (v := ?vzkf0) rfl (by kernel_rfl) (by kernel_rfl) (by kernel_rfl) rfl (fun _ _ _ h => h) (Or.inl ⟨by rfl, ?hzkf0⟩) ?_
  case hzkf0 => (intro w hSw; go_simp) <;> with_reducible rfl
  simp only [Act.put, List.getElem_toArray, List.getElem_cons_zero, List.getElem_cons_succ, List.setIfInBounds_toArray, List.set_cons_zero, List.set_cons_succ]
  refine anyL_take2 (i := 0) (v := ?vzk1) rfl (by kernel_rfl) (by kernel_rfl) (by kernel_rfl) (by kernel_rfl) (fun _ _ _ h => h) (Or.inl ⟨by rfl, ?hzk1⟩) (unhide HS0) ?_
  case hzk1 => (intro w hSw; (try dsimp only at hSw); go_simp) <;> with_reducible rfl
  simp only [Act.put, List.getElem_toArray, List.getElem_cons_zero, List.setIfInBounds_toArray, List.set_cons_zero, List.set_cons_succ]
  refine anyL_take2 (i := 2) (v := ?vzk2) rfl (by kernel_rfl) (by kernel_rfl) (by kernel_rfl) (by kernel_rfl) (fun _ _ _ h => h) (Or.inl ⟨by rfl, ?hzk2⟩) (unhide HS0) ?_
  case hzk2 => (intro w hSw; (try dsimp only at hSw); go_simp) <;> with_reducible rfl
  simp only [Act.put, List.getElem_toArray, List.getElem_cons_zero, List.getElem_cons_succ, List.setIfInBounds_toArray, List.set_cons_zero, List.set_cons_succ]
  refine anyL_take2 (i := 3) (v := ?vzk3) rfl (by kernel_rfl) (by kernel_rfl) (by kernel_rfl) (by kernel_rfl) (fun _ _ _ h => h) (Or.inl ⟨by rfl, ?hzk3⟩) (unhide HS0) ?_
  case hzk3 => (intro w hSw; (try dsimp only at hSw); go_simp) <;> with_reducible rfl
  simp only [Act.put, List.getElem_toArray, List.getElem_cons_zero, List.getElem_cons_succ, List.setIfInBounds_toArray, List.set_cons_zero, List.set_cons_succ]
  refine anyL_take2 (i := 4) (v := ?vzk4) rfl (by kernel_rfl) (by kernel_rfl) (by kernel_rfl) (by kernel_rfl) (fun _ _ _ h => h) (Or.inl ⟨by rfl, ?hzk4⟩) (unhide HS0) ?_
  case hzk4 => (intro w hSw; (try dsimp only at hSw); go_simp) <;> with_reducible rfl
  simp only [Act.put, List.getElem_toArray, List.getElem_cons_zero, List.getElem_cons_succ, List.setIfInBounds_toArray, List.set_cons_zero, List.set_cons_succ]
  refine anyL_take2 (i := 5) (v := ?vzk5) rfl (by kernel_rfl) (by kernel_rfl) (by kernel_rfl) (by kernel_rfl) (fun _ _ _ h => h) (Or.inl ⟨by rfl, ?hzk5⟩) (unhide HS0) ?_
  case hzk5 => (intro w hSw; (try dsimp only at hSw); go_simp) <;> with_reducible rfl
  simp only [Act.put, List.getElem_toArray, List.getElem_cons_zero, List.getElem_cons_succ, List.setIfInBounds_toArray, List.set_cons_zero, List.set_cons_succ]
  refine anyL_take2 (i := 6) (v := ?vzk6) rfl (by kernel_rfl) (by kernel_rfl) (by kernel_rfl) (by kernel_rfl) (fun _ _ _ h => h) (Or.inl ⟨by rfl, ?hzk6⟩) (unhide HS0) ?_
  case hzk6 => (intro w hSw; (try dsimp only at hSw); go_simp) <;> with_reducible rfl
  simp only [Act.put, List.getElem_toArray, List.getElem_cons_zero, List.getElem_cons_succ, List.setIfInBounds_toArray, List.set_cons_zero, List.set_cons_succ]
  refine anyL_take2 (i := 8) (v := ?vzk7) rfl (by kernel_rfl) (by kernel_rfl) (by kernel_rfl) (by kernel_rfl) (fun _ _ _ h => h) (Or.inl ⟨by rfl, ?hzk7⟩) (unhide HS0) ?_
  case hzk7 => (intro w hSw; (try dsimp only at hSw); go_simp) <;> with_reducible rfl
  simp only [Act.put, List.getElem_toArray, List.getElem_cons_zero, List.getElem_cons_succ, List.setIfInBounds_toArray, List.set_cons_zero, List.set_cons_succ]
  refine anyL_take2 (i := 9) (v := ?vzk8) rfl (by kernel_rfl) (by kernel_rfl) (by kernel_rfl) (by kernel_rfl) (fun _ _ _ h => h) (Or.inl ⟨by rfl, ?hzk8⟩) (unhide HS0) ?_
  case hzk8 => (intro w hSw; (try dsimp only at hSw); go_simp) <;> with_reducible rfl
  simp only [Act.put, List.getElem_toArray, List.getElem_cons_zero, List.getElem_cons_succ, List.setIfInBounds_toArray, List.set_cons_zero, List.set_cons_succ]
  refine anyL_take2 (i := 10) (v := ?vzk9) rfl (by kernel_rfl) (by kernel_rfl) (by kernel_rfl) (by kernel_rfl) (fun _ _ _ h => h) (Or.inl ⟨by rfl, ?hzk9⟩) (unhide HS0) ?_
  case hzk9 => (intro w hSw; (try dsimp only at hSw); go_simp) <;> with_reducible rfl
  simp only [Act.put, List.getElem_toArray, List.getElem_cons_zero, List.getElem_cons_succ, List.setIfInBounds_toArray, List.set_cons_zero, List.set_cons_succ]
  refine anyL_take2 (i := 11) (v := ?vzk10) rfl (by kernel_rfl) (by kernel_rfl) (by kernel_rfl) (by kernel_rfl) (fun _ _ _ h => h) (Or.inl ⟨by rfl, ?hzk10⟩) (unhide HS0) ?_
  case hzk10 => (intro w hSw; (try dsimp only at hSw); go_simp) <;> with_reducible rfl
  simp only [Act.put, List.getElem_toArray, List.getElem_cons_zero, List.getElem_cons_succ, List.setIfInBounds_toArray, List.set_cons_zero, List.set_cons_succ]
  refine anyL_take2 (i := 12) (v := ?vzk11) rfl (by kernel_rfl) (by kernel_rfl) (by kernel_rfl) (by kernel_rfl) (fun _ _ _ h => h) (Or.inl ⟨by rfl, ?hzk11⟩) (unhide HS0) ?_
  case hzk11 => (intro w hSw; (try dsimp only at hSw); go_simp) <;> with_reducible rfl
  simp only [Act.put, List.getElem_toArray, List.getElem_cons_zero, List.getElem_cons_succ, List.setIfInBounds_toArray, List.set_cons_zero, List.set_cons_succ]
  refine anyL_ready (rs := [7]) (by kernel_rfl) (by simp) ?_
  refine AllL.cons rfl (fun K hK => ?_) AllL.nil
  go_simp
  refine (unhide HM _).mono ?_
  rintro e w' ⟨rfl, rfl⟩
  refine unhide hK _ _ (fun _ => unhide HS0) ?_
  clear hK K
  refine anyL_ready (rs := [13]) (by kernel_rfl) (by simp) ?_
  refine AllL.cons rfl (fun K hK => ?_) AllL.nil
  go_simp
  refine (unhide HN _).mono ?_
  rintro e w' ⟨rfl, rfl⟩
  refine unhide hK _ _ (fun _ => unhide HS0) ?_
  clear hK K
  refine anyL_take2 (i := 14) (v := ?vzk12) rfl (by kernel_rfl) (by kernel_rfl) (by kernel_rfl) (by kernel_rfl) (fun _ _ _ h => h) (Or.inl ⟨by rfl, ?hzk12⟩) (unhide HS0) ?_
  case hzk12 => (intro w hSw; (try dsimp only at hSw); go_simp) <;> with_reducible rfl
  simp only [Act.put, List.getElem_toArray, List.getElem_cons_zero, List.getElem_cons_succ, List.setIfInBounds_toArray, List.set_cons_zero, List.set_cons_succ]
  refine anyL_take2 (i := 15) (v := ?vzk13) rfl (by kernel_rfl) (by kernel_rfl) (by kernel_rfl) (by kernel_rfl) (fun _ _ _ h => h) (Or.inl ⟨by rfl, ?hzk13⟩) (unhide HS0) ?_
  case hzk13 => (intro w hSw; (try dsimp only at hSw); go_simp) <;> with_reducible rfl
  simp only [Act.put, List.getElem_toArray, List.getElem_cons_zero, List.getElem_cons_succ, List.setIfInBounds_toArray, List.set_cons_zero, List.set_cons_succ]
  refine anyL_ready (rs := [16]) (by kernel_rfl) (by simp) ?_
  refine AllL.cons rfl (fun K hK => ?_) AllL.nil
  go_simp
  refine unhide hK _ _ (fun h => by cases h) ?_
  clear hK K
  refine anyL_free (i := 17) (v := ?vzkf14) rfl (by kernel_rfl) (by kernel_rfl) (by kernel_rfl) rfl (fun _ _ _ h => h) (Or.inl ⟨by rfl, ?hzkf14⟩) ?_
  case hzkf14 => (intro w hSw; go_simp) <;> with_reducible rfl
  simp only [Act.put, List.getElem_toArray, List.getElem_cons_zero, List.getElem_cons_succ, List.setIfInBounds_toArray, List.set_cons_zero, List.set_cons_succ]
  refine anyL_free (i := 18) (v := ?vzkf15) rfl (by kernel_rfl) (by kernel_rfl) (by kernel_rfl) rfl (fun _ _ _ h => h) (Or.inl ⟨by rfl, ?hzkf15⟩) ?_
  case hzkf15 => (intro w hSw; go_simp) <;> with_reducible rfl
  simp only [Act.put, List.getElem_toArray, List.getElem_cons_zero, List.getElem_cons_succ, List.setIfInBounds_toArray, List.set_cons_zero, List.set_cons_succ]
  refine anyL_ready (rs := [19]) (by kernel_rfl) (by simp) ?_
  refine AllL.cons rfl (fun K hK => ?_) AllL.nil
  go_simp
  refine unhide hK _ _ (fun h => by cases h) ?_
  clear hK K
  refine anyL_done (by kernel_rfl) ?_ _
  exact bodyPost_end (v := .tuple #[]) (results_none Try.results45 _ _ _) rfl ⟨rfl, unhide HR, unhide HB⟩

/-- where the next change finds the old text: behind the last one -/
def lstC : Int → List Dop → Int
  | p, [] => p
  | _, c :: r => lstC c.n r
/-- changes as operations -/
def opC : Int → List Dop → List Dop
  | _, [] => []
  | p, c :: r => ⟨1, c.k - p, []⟩ :: ⟨2, 0, c.t⟩ :: ⟨3, c.n - c.k, []⟩ :: opC c.n r
def opsC (n : Int) (cs : List Dop) : List Dop := opC 0 cs ++ [⟨1, n - lstC 0 cs, []⟩]
theorem opC_len : ∀ (p : Int) (cs : List Dop), (opC p cs).length = cs.length * 3
  | _, [] => rfl
  | p, c :: r => by simp only [opC, List.length_cons, opC_len c.n r]; omega
theorem opsC_len (n : Int) (cs : List Dop) : (opsC n cs).length = cs.length * 3 + 1 := by simp [opsC, opC_len]
theorem opC_get : ∀ (p : Int) (cs : List Dop) (k : Nat), k < cs.length → (opC p cs)[k * 3]? = some ⟨1, (cs.getD k opZ).k - lstC p (cs.take k), []⟩ ∧ (opC p cs)[k * 3 + 1]? = some ⟨2, 0, (cs.getD k opZ).t⟩ ∧ (opC p cs)[k * 3 + 2]? = some ⟨3, (cs.getD k opZ).n - (cs.getD k opZ).k, []⟩
  | _, [], k, hk => absurd hk (by simp)
  | p, c :: r, 0, _ => by simp [opC, lstC]
  | p, c :: r, k + 1, hk => by
    have ih := opC_get c.n r k (by simpa using hk)
    rw [show (k + 1) * 3 = k * 3 + 3 by omega]
    simpa [opC, lstC] using ih
theorem opsC_get (n : Int) (cs : List Dop) {k : Nat} (hk : k < cs.length) : (opsC n cs).getD (k * 3) opZ = ⟨1, (cs.getD k opZ).k - lstC 0 (cs.take k), []⟩ ∧ (opsC n cs).getD (k * 3 + 1) opZ = ⟨2, 0, (cs.getD k opZ).t⟩ ∧ (opsC n cs).getD (k * 3 + 2) opZ = ⟨3, (cs.getD k opZ).n - (cs.getD k opZ).k, []⟩ := by
  obtain ⟨h1, h2, h3⟩ := opC_get 0 cs k hk
  have hl := opC_len 0 cs
  unfold opsC List.getD
  rw [List.getElem?_append_left (by omega), List.getElem?_append_left (by omega), List.getElem?_append_left (by omega), h1, h2, h3]
  exact ⟨rfl, rfl, rfl⟩
theorem opsC_last (n : Int) (cs : List Dop) : (opsC n cs).getD (cs.length * 3) opZ = ⟨1, n - lstC 0 cs, []⟩ := by
  have hl := opC_len 0 cs
  unfold opsC List.getD
  rw [List.getElem?_append_right (by omega), hl]
  simp
theorem lstC_take : ∀ (p : Int) (cs : List Dop) (k : Nat), k < cs.length → lstC p (cs.take (k + 1)) = (cs.getD k opZ).n
  | _, [], k, hk => absurd hk (by simp)
  | p, c :: r, 0, _ => by simp [lstC]
  | p, c :: r, k + 1, hk => by
    have ih := lstC_take c.n r k (by simpa using hk)
    simpa [lstC] using ih
/-- the arithmetic of eachChange stays within bounds -/
structure OkC (n : Int) (cs : List Dop) : Prop where
  z : 0 ≤ n ∧ n ≤ 268435456
  c : ∀ k, k < cs.length → 0 ≤ lstC 0 (cs.take k) ∧ lstC 0 (cs.take k) ≤ (cs.getD k opZ).k ∧ (cs.getD k opZ).k ≤ (cs.getD k opZ).n ∧ (cs.getD k opZ).n ≤ n
  l : 0 ≤ lstC 0 cs ∧ lstC 0 cs ≤ n
set_option maxRecDepth 100000 in
set_option maxHeartbeats 4000000 in
theorem eachC_at (a : Option Addr) (c B : Nat) (n : Int) (cs : List Dop) (w : World) (fk fp fd : Nat) (rv : Value) (I : Nat → World → Prop) (F : Nat → Nat → Array Value → World → Prop)
    (ek : ∀ args w, (callFunc fk args).run Try.prog w = .ok (.enter fk args) w) (ep : ∀ args w, (callFunc fp args).run Try.prog w = .ok (.enter fp args) w) (ed : ∀ args w, (callFunc fd args).run Try.prog w = .ok (.enter fd args) w)
    (hd : ∀ X, Below B w X → IsO X a cs) (hI : ∀ k X, I k X → Below B w X) (hA : ∀ k X (q : Array Value), I k X → F k X.heap.size q (X.alloc (.cells q 56))) (hF : ∀ k g q X, F k g q X → Cls X g 56 q ∧ I k X) (h0 : I 0 w) (hl : cs.length ≤ 4398046511104) (ok : OkC n cs)
    (hk : ∀ k g q X, k < (opsC n cs).length → ((opsC n cs).getD k opZ).k = 1 → F k g q X → Calls Try.prog fk #[rv, .int .i64 ((opsC n cs).getD k opZ).n] X fun y X' => y = .returned (.tuple #[]) ∧ F (k + 1) g q X')
    (hp : ∀ k g q X, k < (opsC n cs).length → ((opsC n cs).getD k opZ).k = 2 → F k g q X → Calls Try.prog fp #[rv, .string (strOfNums ((opsC n cs).getD k opZ).t)] X fun y X' => y = .returned (.tuple #[]) ∧ F (k + 1) g q X')
    (hq : ∀ k g q X, k < (opsC n cs).length → ((opsC n cs).getD k opZ).k = 3 → F k g q X → Calls Try.prog fd #[rv, .int .i64 ((opsC n cs).getD k opZ).n] X fun y X' => y = .returned (.tuple #[]) ∧ F (k + 1) g q X')
    (he : ∀ k X, k < (opsC n cs).length → ((opsC n cs).getD k opZ).k = 1 → I k X → Calls Try.prog fk #[rv, .int .i64 ((opsC n cs).getD k opZ).n] X fun y X' => y = .returned (.tuple #[]) ∧ I (k + 1) X') :
    Calls Try.prog 44 #[.int .i64 n, .slice a cs.length c, .func (.func fk) #[rv] #[], .func (.func fp) #[rv] #[], .func (.func fd) #[rv] #[]] w fun y w' => y = .returned (.tuple #[]) ∧ I (cs.length * 3 + 1) w' := by
  have HO := hide hd
  have HI := hide hI
  have HAl := hide hA
  have HFF := hide hF
  have HL := opsC_len n cs
  have HK : Hid (∀ k, k < cs.length → (∀ g q X, F (k * 3) g q X → Calls Try.prog fk #[rv, .int .i64 ((cs.getD k opZ).k - lstC 0 (cs.take k))] X fun y X' => y = .returned (.tuple #[]) ∧ F (k * 3 + 1) g q X') ∧ (∀ g q X, F (k * 3 + 1) g q X → Calls Try.prog fp #[rv, .string (strOfNums (cs.getD k opZ).t)] X fun y X' => y = .returned (.tuple #[]) ∧ F (k * 3 + 2) g q X') ∧ (∀ g q X, F (k * 3 + 2) g q X → Calls Try.prog fd #[rv, .int .i64 ((cs.getD k opZ).n - (cs.getD k opZ).k)] X fun y X' => y = .returned (.tuple #[]) ∧ F ((k + 1) * 3) g q X')) := hide fun k hlt => by
    obtain ⟨h1, h2, h3⟩ := opsC_get n cs hlt
    refine ⟨fun g q X hX => ?_, fun g q X hX => ?_, fun g q X hX => ?_⟩
    · have := hk (k * 3) g q X (by omega) (by rw [h1]) hX
      rw [h1] at this; exact this
    · have := hp (k * 3 + 1) g q X (by omega) (by rw [h2]) hX
      rw [h2] at this; exact this
    · have := hq (k * 3 + 2) g q X (by omega) (by rw [h3]) hX
      rw [h3] at this
      rw [show (k + 1) * 3 = k * 3 + 2 + 1 by omega]
      exact this
  have HE : Hid (∀ X, I (cs.length * 3) X → Calls Try.prog fk #[rv, .int .i64 (n - lstC 0 cs)] X fun y X' => y = .returned (.tuple #[]) ∧ I (cs.length * 3 + 1) X') := hide fun X hX => by
    have h1 := opsC_last n cs
    have := he (cs.length * 3) X (by omega) (by rw [h1]) hX
    rw [h1] at this; exact this
  have HW : Hid (∀ k, k < cs.length → wrap64 ((cs.getD k opZ).k - lstC 0 (cs.take k)) = (cs.getD k opZ).k - lstC 0 (cs.take k) ∧ wrap64 ((cs.getD k opZ).n - (cs.getD k opZ).k) = (cs.getD k opZ).n - (cs.getD k opZ).k) := hide fun k hlt => by
    have h1 := ok.z
    obtain ⟨h2, h3, h4, h5⟩ := ok.c k hlt
    exact ⟨wrapD _ (by omega) (by omega), wrapD _ (by omega) (by omega)⟩
  have e9 : wrap64 (n - lstC 0 cs) = n - lstC 0 cs := by have h1 := ok.z; have h2 := ok.l; exact wrapD _ (by omega) (by omega)
  have H0 := hide h0
  clear hd hI hA hF hk hp hq he h0 HL ok
  go_enter Try.func44, Try.ntmps44
  go_wp2_with fail
  go_loopw [10, 12, 15] (fun v10 v12 v15 wx => (∃ z, v12 = z) ∧ (∃ k : Nat, v15 = .int .i64 (k : Int) ∧ v10 = .int .i64 (lstC 0 (cs.take k)) ∧ k ≤ cs.length ∧ Hid (I (k * 3) wx))) (fun _ _ v15 _ => cs.length - (intOf v15).toNat)
  case atStart => exact ⟨⟨_, rfl⟩, ⟨0, rfl, rfl, Nat.zero_le _, H0⟩⟩
  case round =>
    clear H0
    obtain ⟨⟨z1, rfl⟩, ⟨k, rfl, rfl, hk, HB⟩⟩ := hrel
    by_cases hlt : k < cs.length
    · have t1 : decide ((k : Int) < (cs.length : Int)) = true := decide_eq_true (by omega)
      obtain ⟨g, off, rfl, hg, c0, c1, c2⟩ := (unhide HO wr (unhide HI _ wr (unhide HB))).three hlt
      obtain ⟨hK1, hP1, hQ1⟩ := unhide HK k hlt
      have HK1 := hide hK1
      have HP1 := hide hP1
      have HQ1 := hide hQ1
      obtain ⟨w1, w2⟩ := unhide HW k hlt
      have HT := hide (lstC_take 0 cs k hlt)
      clear hK1 hP1 hQ1 HK HW e9
      generalize cs.getD k opZ = x at *
      obtain ⟨xk, xn, xt⟩ := x
      dsimp only at c0 c1 c2 HK1 HP1 HQ1 w1 w2 HT
      generalize lstC 0 (cs.take k) = p at *
      generalize hM1 : xk - p = M1 at *
      generalize hM2 : xn - xk = M2 at *
      obtain ⟨d0, d1, d2⟩ := three_nwD wr (.int .i64 xk) (.int .i64 xn) (.string (strOfNums xt)) (t := 56)
      have HA := hide (unhide HAl _ wr #[.int .i64 xk, .int .i64 xn, .string (strOfNums xt)] (unhide HB))
      generalize strOfNums xt = st at *
      clear HB
      go_upto_region 4 with fail
      clear c0 c1 c2 d1 d2
      have HC := hide (unhide HK1 _ _ _ (unhide HA))
      clear HA HK1
      generalize wr.alloc (.cells #[.int .i64 xk, .int .i64 xn, .string st] 56) = v0 at *
      generalize wr.heap.size = gb at *
      go_wp2_with fail
      try rw [w1]
      refine (unhide HC).mono ?_
      rintro y v1 ⟨rfl, hi1⟩
      dsimp only
      obtain ⟨k1, _⟩ := unhide HFF _ _ _ _ hi1
      have f2 : v1.cell? ⟨gb, 2, none⟩ = some (.string st) := k1.cell 2
      have HC2 := hide (unhide HP1 _ _ _ hi1)
      clear HC hi1 HP1 k1 d0
      go_wp2_with fail
      refine (unhide HC2).mono ?_
      rintro y v2 ⟨rfl, hi1⟩
      dsimp only
      obtain ⟨k1, _⟩ := unhide HFF _ _ _ _ hi1
      have f0 : v2.cell? ⟨gb, 0, none⟩ = some (.int .i64 xk) := k1.cell 0
      have f1 : v2.cell? ⟨gb, 1, none⟩ = some (.int .i64 xn) := k1.cell 1
      have HC3 := hide (unhide HQ1 _ _ _ hi1)
      clear HC2 hi1 HQ1 k1 f2
      go_wp2_with fail
      try rw [w2]
      refine (unhide HC3).mono ?_
      rintro y v3 ⟨rfl, hi1⟩
      dsimp only
      obtain ⟨k1, hj⟩ := unhide HFF _ _ _ _ hi1
      have f1 : v3.cell? ⟨gb, 1, none⟩ = some (.int .i64 xn) := k1.cell 1
      have HN := hide hj
      clear HC3 hi1 k1 hj f0 HFF
      go_wp2_with fail
      go_roundw
      case rel => exact ⟨⟨_, rfl⟩, ⟨k + 1, by go_num, by rw [unhide HT], hlt, HN⟩⟩
      case measure => simp [intOf]; omega
    · obtain rfl : k = cs.length := by omega
      have t1 : decide ((cs.length : Int) < (cs.length : Int)) = false := decide_eq_false (by omega)
      have HE1 := hide (unhide HE wr (unhide HB))
      clear hk HK HW HE HB HAl HFF HO HI
      rw [List.take_length]
      generalize hM : n - lstC 0 cs = M at *
      generalize lstC 0 cs = p at *
      go_wp2_with fail
      try rw [e9]
      refine (unhide HE1).mono ?_
      rintro y v3 ⟨rfl, hi1⟩
      dsimp only
      have HN := hide hi1
      clear HE1 hi1
      go_wp2_with fail
      exact bodyPost_end (v := .tuple #[]) (results_none Try.results44 _ _ _) rfl ⟨rfl, unhide HN⟩

end Go.Proofs.Ytdemagijhmbdcaa
end

section
namespace Go.Proofs.Ytdemagijhmbdcaa
open Go.ChangeShapes Go.WideShapes Go.ChangeAt Go.RowKit
attribute [local go_sem] Oper.semAt_some

/-- changes in order, within n bytes -/
def okL : Int → List Dop → Int → Prop
  | p, [], n => p ≤ n
  | p, c :: r, n => p ≤ c.k ∧ c.k ≤ c.n ∧ c.n ≤ n ∧ okL c.n r n
theorem okL_of : ∀ (cs : List Dop) (p n : Int), p ≤ n → (∀ c, cs.head? = some c → p ≤ c.k) → (∀ k, k < cs.length → (cs.getD k opZ).k ≤ (cs.getD k opZ).n ∧ (cs.getD k opZ).n ≤ n) → (∀ k, k + 1 < cs.length → ¬ (cs.getD (k + 1) opZ).k < (cs.getD k opZ).n) → okL p cs n
  | [], _, _, h, _, _, _ => h
  | c :: r, p, n, h, h1, h2, h3 => by
    have e := h2 0 (by simp)
    simp only [List.getD, List.getElem?_cons_zero, Option.getD_some] at e
    refine ⟨h1 c rfl, e.1, e.2, okL_of r c.n n e.2 (fun d hd => ?_) (fun k hk => ?_) (fun k hk => ?_)⟩
    · cases r with
      | nil => simp at hd
      | cons d' r' =>
        simp only [List.head?_cons, Option.some.injEq] at hd
        subst hd
        have := h3 0 (by simp)
        simp at this
        omega
    · have := h2 (k + 1) (by simpa using hk)
      simpa using this
    · have := h3 (k + 1) (by simpa using hk)
      simpa using this
theorem okL_at : ∀ (cs : List Dop) (p n : Int), okL p cs n → ∀ k, k < cs.length → p ≤ lstC p (cs.take k) ∧ lstC p (cs.take k) ≤ (cs.getD k opZ).k ∧ (cs.getD k opZ).k ≤ (cs.getD k opZ).n ∧ (cs.getD k opZ).n ≤ n
  | [], _, _, _, k, hk => absurd hk (by simp)
  | c :: r, p, n, ⟨h1, h2, h3, _⟩, 0, _ => by simp [lstC]; omega
  | c :: r, p, n, ⟨h1, h2, h3, h4⟩, k + 1, hk => by
    have := okL_at r c.n n h4 k (by simpa using hk)
    simp [lstC] at this ⊢
    omega
theorem okL_end : ∀ (cs : List Dop) (p n : Int), okL p cs n → p ≤ lstC p cs ∧ lstC p cs ≤ n
  | [], _, _, h => ⟨Int.le_refl _, h⟩
  | c :: r, p, n, ⟨h1, h2, h3, h4⟩ => by
    have := okL_end r c.n n h4
    simp only [lstC]
    omega
theorem okC_of {cs : List Dop} {n : Int} (hn : 0 ≤ n ∧ n ≤ 268435456) (h : okL 0 cs n) : OkC n cs :=
  ⟨hn, fun k hk => okL_at cs 0 n h k hk, okL_end cs 0 n h⟩
/-- by how much longer the text gets -/
def dlC : List Dop → Int
  | [] => 0
  | c :: r => ((c.t.length : Int) - (c.n - c.k)) + dlC r
theorem dlC_take : ∀ (cs : List Dop) (k : Nat), k < cs.length → dlC (cs.take (k + 1)) = dlC (cs.take k) + (((cs.getD k opZ).t.length : Int) - ((cs.getD k opZ).n - (cs.getD k opZ).k))
  | [], k, hk => absurd hk (by simp)
  | c :: r, 0, _ => by simp [dlC]
  | c :: r, k + 1, hk => by
    have := dlC_take r k (by simpa using hk)
    simp only [List.take_succ_cons, dlC, this]
    simp
    omega
theorem frD_cons (o : Dop) (d : List Dop) : frD (o :: d) = frN o + frD d := by simp [frD]
theorem toD_cons (o : Dop) (d : List Dop) : toD (o :: d) = toN o + toD d := by simp [toD]
theorem frD_app (d e : List Dop) : frD (d ++ e) = frD d + frD e := by simp [frD]
theorem toD_app (d e : List Dop) : toD (d ++ e) = toD d + toD e := by simp [toD]
theorem opC_sizes : ∀ (cs : List Dop) (p n : Int), okL p cs n → (frD (opC p cs) : Int) = lstC p cs - p ∧ (toD (opC p cs) : Int) = lstC p cs - p + dlC cs
  | [], p, _, _ => by simp [opC, lstC, dlC, frD, toD]
  | c :: r, p, n, ⟨h1, h2, h3, h4⟩ => by
    obtain ⟨i1, i2⟩ := opC_sizes r c.n n h4
    simp only [opC, frD_cons, toD_cons, lstC, dlC]
    simp [frN, toN]
    omega
theorem opsC_sizes {cs : List Dop} {n : Int} (h : okL 0 cs n) : (frD (opsC n cs) : Int) = n ∧ (toD (opsC n cs) : Int) = n + dlC cs := by
  obtain ⟨i1, i2⟩ := opC_sizes cs 0 n h
  have := okL_end cs 0 n h
  simp only [opsC, frD_app, toD_app]
  have e1 : frD [(⟨1, n - lstC 0 cs, []⟩ : Dop)] = (n - lstC 0 cs).toNat := by simp [frD, frN]
  have e2 : toD [(⟨1, n - lstC 0 cs, []⟩ : Dop)] = (n - lstC 0 cs).toNat := by simp [toD, toN]
  rw [e1, e2]
  omega
theorem opC_ok : ∀ (cs : List Dop) (p n : Int), okL p cs n → ∀ o ∈ opC p cs, (o.k = 1 ∨ o.k = 2 ∨ o.k = 3) ∧ 0 ≤ o.n
  | [], _, _, _, o, ho => by simp [opC] at ho
  | c :: r, p, n, ⟨h1, h2, h3, h4⟩, o, ho => by
    simp only [opC, List.mem_cons] at ho
    rcases ho with rfl | rfl | rfl | ho
    · exact ⟨.inl rfl, by dsimp only; omega⟩
    · exact ⟨.inr (.inl rfl), by dsimp only; omega⟩
    · exact ⟨.inr (.inr rfl), by dsimp only; omega⟩
    · exact opC_ok r c.n n h4 o ho
theorem opsC_ok {cs : List Dop} {n : Int} (h : okL 0 cs n) : ∀ o ∈ opsC n cs, (o.k = 1 ∨ o.k = 2 ∨ o.k = 3) ∧ 0 ≤ o.n := by
  intro o ho
  rcases List.mem_append.1 ho with ho | ho
  · exact opC_ok cs 0 n h o ho
  · simp at ho; subst ho; have := okL_end cs 0 n h; exact ⟨.inl rfl, by dsimp only; omega⟩
/-- the sizes of changes -/
theorem eachC_z (a : Option Addr) (c B g : Nat) (n : Int) (cs : List Dop) (X : World) (hd : ∀ Y, Below B X Y → IsO Y a cs) (hX : IsZ X g 0 0) (hB : B ≤ g) (hB2 : B ≤ X.heap.size) (hl : cs.length ≤ 4398046511104) (hn : 0 ≤ n ∧ n ≤ 268435456) (hok : okL 0 cs n) :
    Calls Try.prog 44 #[.int .i64 n, .slice a cs.length c, .func (.func 45) #[.pointer (some ⟨g, 0, none⟩)] #[], .func (.func 46) #[.pointer (some ⟨g, 0, none⟩)] #[], .func (.func 47) #[.pointer (some ⟨g, 0, none⟩)] #[]] X
      fun y X' => y = .returned (.tuple #[]) ∧ IsZ X' g (satD (frD (opsC n cs))) (satD (toD (opsC n cs))) ∧ Below B X X' := by
  have hO := opsC_ok hok
  have hlen := opsC_len n cs
  generalize hd0 : opsC n cs = d at *
  have stepK : ∀ k Y, k < d.length → (d.getD k opZ).k = 1 → (IsZ Y g (satD (frD (d.take k))) (satD (toD (d.take k))) ∧ Below B X Y) → Calls Try.prog 45 #[.pointer (some ⟨g, 0, none⟩), .int .i64 (d.getD k opZ).n] Y fun y Z => y = .returned (.tuple #[]) ∧ (IsZ Z g (satD (frD (d.take (k + 1)))) (satD (toD (d.take (k + 1)))) ∧ Below B X Z) ∧ ∀ i, i ≠ g → Z.heap[i]? = Y.heap[i]? := fun k Y hk h1 hY => by
    obtain ⟨m, hm⟩ : ∃ m : Nat, (d.getD k opZ).n = (m : Int) := ⟨(d.getD k opZ).n.toNat, by have := (hO _ (getD_memD hk)).2; omega⟩
    rw [hm]
    refine (zkeepF_at g _ _ m Y hY.1 (satD_le _) (satD_le _)).mono fun y Z ⟨e, hz, hb, hi⟩ => ⟨e, ⟨?_, hY.2.trans (hb.mono hB)⟩, hi⟩
    rw [satD_add, satD_add] at hz
    rw [frD_take d hk, toD_take d hk, show frN (d.getD k opZ) = m by unfold frN; rw [if_pos (.inl h1), hm]; simp, show toN (d.getD k opZ) = m by unfold toN; rw [if_pos h1, hm]; simp]
    exact hz
  have ne : ∀ (Y : World) (q : Nat) (t : Array Value) (f s : Nat), IsZ Y g f s → Cls Y q 56 t → q ≠ g := fun Y q t f s h1 h2 => typeD_ne h2 h1 (by decide)
  have := eachC_at a c B n cs X 45 46 47 (.pointer (some ⟨g, 0, none⟩))
    (fun k Y => IsZ Y g (satD (frD (d.take k))) (satD (toD (d.take k))) ∧ Below B X Y)
    (fun k q t Y => (IsZ Y g (satD (frD (d.take k))) (satD (toD (d.take k))) ∧ Below B X Y) ∧ Cls Y q 56 t)
    (enters_of Try.func45 (by kernel_rfl) rfl) (enters_of Try.func46 (by kernel_rfl) rfl) (enters_of Try.func47 (by kernel_rfl) rfl)
    hd (fun k Y hY => hY.2) (fun k Y q hY => ⟨⟨Cls.alloc hY.1 _, hY.2.alloc (Nat.le_trans hB2 hY.2.size) _⟩, Cls.new _ _ _⟩) (fun k g q Y hY => ⟨hY.2, hY.1⟩) ⟨hX, Below.refl _ _⟩ hl (okC_of hn hok)
    (fun k q t Y hk h1 hY => by
      rw [hd0] at hk h1 ⊢
      exact (stepK k Y hk h1 hY.1).mono fun y Z ⟨e, hz, hi⟩ => ⟨e, hz, hY.2.same (hi q (ne Y q t _ _ hY.1.1 hY.2))⟩)
    (fun k q t Y hk h1 hY => by
      rw [hd0] at hk h1 ⊢
      refine (zputF_at g _ _ (d.getD k opZ).t.length (strOfNums (d.getD k opZ).t) Y hY.1.1 (satD_le _) (strOfNums_size _)).mono fun y Z ⟨e, hz, hb, hi⟩ => ⟨e, ⟨?_, hY.1.2.trans (hb.mono hB)⟩, hY.2.same (hi q (ne Y q t _ _ hY.1.1 hY.2))⟩
      rw [satD_add] at hz
      rw [frD_take d hk, toD_take d hk, show frN (d.getD k opZ) = 0 by unfold frN; rw [h1]; rfl, show toN (d.getD k opZ) = (d.getD k opZ).t.length by unfold toN; rw [h1]; rfl]
      exact hz)
    (fun k q t Y hk h1 hY => by
      rw [hd0] at hk h1 ⊢
      obtain ⟨m, hm⟩ : ∃ m : Nat, (d.getD k opZ).n = (m : Int) := ⟨(d.getD k opZ).n.toNat, by have := (hO _ (getD_memD hk)).2; omega⟩
      rw [hm]
      refine (zdropF_at g _ _ m Y hY.1.1 (satD_le _)).mono fun y Z ⟨e, hz, hb, hi⟩ => ⟨e, ⟨?_, hY.1.2.trans (hb.mono hB)⟩, hY.2.same (hi q (ne Y q t _ _ hY.1.1 hY.2))⟩
      rw [satD_add] at hz
      rw [frD_take d hk, toD_take d hk, show frN (d.getD k opZ) = m by unfold frN; rw [if_pos (.inr h1), hm]; simp, show toN (d.getD k opZ) = 0 by unfold toN; rw [h1]; rfl]
      exact hz)
    (fun k Y hk h1 hY => by
      rw [hd0] at hk h1 ⊢
      exact (stepK k Y hk h1 hY).mono fun y Z ⟨e, hz, _⟩ => ⟨e, hz⟩)
  rw [← hlen, List.take_length] at this
  exact this
/-- what lies elsewhere, told to a builder -/
def rQ (q : Nat) (t : Array Value) : Nat → Option Value := fun j => if j = 0 then some (.agg t) else if j = 1 then some (.int .i64 (q : Int)) else none
theorem rQ_far (q : Nat) (t : Array Value) {j : Nat} (h : 4 ≤ j) : rQ q t j = none := by unfold rQ; rw [if_neg (by omega), if_neg (by omega)]
theorem IsBd.re {X : World} {B g : Nat} {r r' : Nat → Option Value} {b : Bld} {ts : List (List Int)} (h : IsBd X B g 0 r b ts) (hf : FrB r' 0 X) (hr : ∀ j, 4 ≤ j → r' j = r j) : IsBd X B g 0 r' b ts := by
  obtain ⟨vo, vt, ⟨ca, t, k1, k2, k3, k4, k5, k6, k7⟩, h2, h3⟩ := h.c
  exact ⟨⟨vo, vt, ⟨ca, t, k1, k2, k3, k4, k5, k6, fun j hj => by rw [k7 j hj, hr j (by omega)]⟩, h2, h3⟩, h.t, h.z, hf⟩
theorem fr_rQ {q : Nat} {t : Array Value} {X : World} (h : Cls X q 56 t) : FrB (rQ q t) 0 X := fun cs k e1 e2 => by
  simp [rQ] at e1 e2
  subst e1
  obtain rfl : q = k := by omega
  exact h
/-- a builder of changes -/
theorem eachC_b (a : Option Addr) (c B g : Nat) (n : Int) (cs : List Dop) (X : World) (hd : ∀ Y, Below B X Y → IsO Y a cs) (hX : IsBd X B g 0 (fun _ => none) b0 []) (hB : B ≤ X.heap.size) (hl : cs.length ≤ 4398046511104) (hn : 0 ≤ n ∧ n ≤ 268435456) (hok : okL 0 cs n) (hz : frD (opsC n cs) + toD (opsC n cs) ≤ 1073741824) :
    Calls Try.prog 44 #[.int .i64 n, .slice a cs.length c, .func (.func 37) #[.pointer (some ⟨g, 0, none⟩)] #[], .func (.func 38) #[.pointer (some ⟨g, 0, none⟩)] #[], .func (.func 39) #[.pointer (some ⟨g, 0, none⟩)] #[]] X
      fun y X' => y = .returned (.tuple #[]) ∧ (∃ ts, IsBd X' B g 0 (fun _ => none) (feedA b0 (dA (opsC n cs))) ts) ∧ Below B X X' := by
  have hO := opsC_ok hok
  have hlen := opsC_len n cs
  generalize hd0 : opsC n cs = d at *
  have hb : ∀ k, (dA (d.take k)).length ≤ 1073741824 := fun k => by have := dA_take d k; have := dA_len (fun o ho => (hO o ho).1); omega
  have fr : ∀ k, k < d.length → (d.getD k opZ).k ≠ 2 → (d.getD k opZ).n.toNat ≤ 1073741824 := fun k hk h1 => by
    have e1 := frD_take d hk
    have e2 : frN (d.getD k opZ) = (d.getD k opZ).n.toNat := by
      have := (hO _ (getD_memD hk)).1
      unfold frN; rw [if_pos (by omega)]
    have e3 := (frD_le d (k + 1)).1
    omega
  have stepK : ∀ (r : Nat → Option Value) k Y, k < d.length → (d.getD k opZ).k = 1 → ((∃ ts, IsBd Y B g 0 r (feedA b0 (dA (d.take k))) ts) ∧ Below B X Y) → Calls Try.prog 37 #[.pointer (some ⟨g, 0, none⟩), .int .i64 (d.getD k opZ).n] Y fun y Z => y = .returned (.tuple #[]) ∧ (∃ ts, IsBd Z B g 0 r (feedA b0 (dA (d.take (k + 1)))) ts) ∧ Below B X Z := fun r k Y hk h1 ⟨⟨ts, hY⟩, hb2⟩ => by
    obtain ⟨m, hm⟩ : ∃ m : Nat, (d.getD k opZ).n = (m : Int) := ⟨(d.getD k opZ).n.toNat, by have := (hO _ (getD_memD hk)).2; omega⟩
    have hf := fr k hk (by omega)
    have e : feedA b0 (dA (d.take (k + 1))) = (feedA b0 (dA (d.take k))).keep m := by rw [← feedD_A, ← feedD_A, feedD_take d hk, op_keep h1, hm]; simp
    rw [hm, e]
    exact (bkeep_at B g 0 r _ ts m Y hY (bd_ok hY (hb k)) (by omega) (Nat.le_trans hB hb2.size)).mono fun y Z ⟨q, ⟨ts', h3, _⟩, h4⟩ => ⟨q, ⟨ts', h3⟩, hb2.trans h4⟩
  have := eachC_at a c B n cs X 37 38 39 (.pointer (some ⟨g, 0, none⟩))
    (fun k Y => (∃ ts, IsBd Y B g 0 (fun _ => none) (feedA b0 (dA (d.take k))) ts) ∧ Below B X Y)
    (fun k q t Y => (∃ ts, IsBd Y B g 0 (rQ q t) (feedA b0 (dA (d.take k))) ts) ∧ Below B X Y)
    (enters_of Try.func37 (by kernel_rfl) rfl) (enters_of Try.func38 (by kernel_rfl) rfl) (enters_of Try.func39 (by kernel_rfl) rfl)
    hd (fun k Y hY => hY.2)
    (fun k Y q ⟨⟨ts, h1⟩, h2⟩ => ⟨⟨ts, (h1.on ((Below.refl Y.heap.size Y).alloc (Nat.le_refl _) _) (Nat.le_refl _)).re (fr_rQ (Cls.new _ _ _)) (fun j hj => rQ_far _ _ hj)⟩, h2.alloc (Nat.le_trans hB h2.size) _⟩)
    (fun k q t Y ⟨⟨ts, h1⟩, h2⟩ => ⟨h1.f t q rfl rfl, ⟨ts, h1.re (fun cs k e1 _ => by cases e1) (fun j hj => (rQ_far _ _ hj).symm)⟩, h2⟩)
    ⟨⟨[], hX⟩, Below.refl _ _⟩ hl (okC_of hn hok)
    (fun k q t Y hk h1 hY => by
      rw [hd0] at hk h1 ⊢
      exact stepK (rQ q t) k Y hk h1 hY)
    (fun k q t Y hk h1 ⟨⟨ts, hY⟩, hb2⟩ => by
      rw [hd0] at hk h1 ⊢
      have e : feedA b0 (dA (d.take (k + 1))) = (feedA b0 (dA (d.take k))).put (d.getD k opZ).t := by rw [← feedD_A, ← feedD_A, feedD_take d hk, op_put h1]
      rw [e]
      exact (bput_at B g 0 (rQ q t) _ ts _ Y hY (bd_ok hY (hb k)).t (Nat.le_trans hB hb2.size)).mono fun y Z ⟨q, h3, h4⟩ => ⟨q, ⟨_, h3⟩, hb2.trans h4⟩)
    (fun k q t Y hk h1 ⟨⟨ts, hY⟩, hb2⟩ => by
      rw [hd0] at hk h1 ⊢
      obtain ⟨m, hm⟩ : ∃ m : Nat, (d.getD k opZ).n = (m : Int) := ⟨(d.getD k opZ).n.toNat, by have := (hO _ (getD_memD hk)).2; omega⟩
      have hf := fr k hk (by omega)
      have e : feedA b0 (dA (d.take (k + 1))) = (feedA b0 (dA (d.take k))).drop m := by rw [← feedD_A, ← feedD_A, feedD_take d hk, op_drop h1, hm]; simp
      rw [hm, e]
      exact (bdrop_at B g 0 (rQ q t) _ ts m Y hY (by have := (bd_ok hY (hb k)).d; omega)).mono fun y Z ⟨q, h3, h4⟩ => ⟨q, ⟨ts, h3⟩, hb2.trans h4⟩)
    (fun k Y hk h1 hY => by
      rw [hd0] at hk h1 ⊢
      exact stepK (fun _ => none) k Y hk h1 hY)
  rw [← hlen, List.take_length] at this
  exact this

end Go.Proofs.Ytdemagijhmbdcaa
end
