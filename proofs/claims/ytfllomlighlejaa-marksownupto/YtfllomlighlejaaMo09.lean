/- A block of cells of one's own, of any number. · Layer 15: marks in memory: New, Len, Get. -/
import Derived.Test.YtfllomlighlejaaMo08
import Derived.Test.YtfllomlighlejaaMo00
import Derived.Deep.Cut

section
namespace Go.Proofs.Ytfllomlighlejaa
open Go.ChangeShapes Go.WideShapes Go.ChangeAt Go.RowKit

def Cls (W : World) (B : Nat) (t : TypeId) (cs : Array Value) : Prop := W.heap[B]? = some (.cells cs t (0, 0))
theorem Cls.lt {W : World} {B : Nat} {t : TypeId} {cs : Array Value} (h : Cls W B t cs) : B < W.heap.size := (Array.getElem?_eq_some_iff.1 h).1
theorem Cls.cell {W : World} {B : Nat} {t : TypeId} {cs : Array Value} (h : Cls W B t cs) (i : Nat) : W.cell? ⟨B, i, none⟩ = cs[i]? := by simp [World.cell?, show W.heap[B]? = _ from h]
theorem Cls.frozen {W : World} {B : Nat} {t : TypeId} {cs : Array Value} (h : Cls W B t cs) (i : Nat) : W.frozen? ⟨B, i, none⟩ = false := by simp [World.frozen?, show W.heap[B]? = _ from h]
theorem Cls.new (W : World) (t : TypeId) (cs : Array Value) : Cls (W.alloc (.cells cs t)) W.heap.size t cs := World.alloc_heap_new W _
theorem Cls.same {W W' : World} {B : Nat} {t : TypeId} {cs : Array Value} (h : Cls W B t cs) (hb : W'.heap[B]? = W.heap[B]?) : Cls W' B t cs := hb.trans h
theorem Cls.below {W W' : World} {B N : Nat} {t : TypeId} {cs : Array Value} (h : Cls W B t cs) (hb : Below N W W') (hB : B < N) : Cls W' B t cs := h.same (hb.block B hB)
theorem Cls.kb {q : Nat → Prop} {N : Nat} {W W' : World} {B : Nat} {t : TypeId} {cs : Array Value} (h : Cls W B t cs) (hb : KB q N W W') (hB : q B ∨ N ≤ B) : Cls W' B t cs := h.same (hb.2 B hB h.lt)
theorem Cls.alloc {W : World} {B : Nat} {t : TypeId} {cs : Array Value} (h : Cls W B t cs) (o : Obj) : Cls (W.alloc o) B t cs := h.same (Below.heap_alloc W o B h.lt)
theorem Cls.other {W : World} {B : Nat} {t : TypeId} {cs : Array Value} (h : Cls W B t cs) (p : Addr) (v : Value) (hp : B ≠ p.block) : Cls (W.setCell p v) B t cs := h.same (Below.heap_setCell W p v B hp)
theorem Cls.set {W : World} {B : Nat} {t : TypeId} {cs : Array Value} (h : Cls W B t cs) (i : Nat) (v : Value) : Cls (W.setCell ⟨B, i, none⟩ v) B t (cs.setIfInBounds i v) := by
  have hl := h.lt
  show (W.heap.modify B _)[B]? = _
  rw [Array.getElem?_eq_getElem (by rw [Array.size_modify]; exact hl), Array.getElem_modify_self]
  have := h
  unfold Cls at this
  rw [Array.getElem?_eq_getElem hl] at this
  rw [Option.some.inj this]
  rfl
theorem setCell_size (W : World) (p : Addr) (v : Value) : (W.setCell p v).heap.size = W.heap.size := by show (W.heap.modify _ _).size = _; rw [Array.size_modify]
theorem setCell_below {N : Nat} (W : World) (p : Addr) (v : Value) (h : N ≤ p.block) : Below N W (W.setCell p v) := (Below.refl N W).setCell (p := p) h v

end Go.Proofs.Ytfllomlighlejaa
end

section
namespace Go.Proofs.Ytfllomlighlejaa
open Go.ChangeShapes Go.WideShapes Go.ChangeAt Go.RowKit
attribute [local go_sem] Oper.semAt_some

/-- a *Marks: the text's length and the map -/
structure IsMs (X : World) (g : Nat) (n : Int) (L : List Mk) : Prop where
  c : ∃ r, Cls X g 69 #[.int .i64 n, .map (some r)] ∧ IsMp X r L
theorem IsMs.below {X Y : World} {g N : Nat} {n : Int} {L : List Mk} (h : IsMs X g n L) (hb : Below N X Y) (hN : X.heap.size ≤ N) : IsMs Y g n L := by
  obtain ⟨r, h1, h2⟩ := h.c
  exact ⟨r, h1.below hb (Nat.lt_of_lt_of_le h1.lt hN), h2.below hb hN⟩
set_option maxRecDepth 100000 in
set_option maxHeartbeats 1000000 in
theorem MLen_at (g : Nat) (n : Int) (L : List Mk) (X : World) (h : IsMs X g n L) :
    Calls Try.prog 10 #[.pointer (some ⟨g, 0, none⟩)] X fun y X' => y = .returned (.int .i64 n) ∧ Below X.heap.size X X' := by
  obtain ⟨r, h1, _⟩ := h.c
  have c0 := h1.cell 0
  simp only [List.getElem?_toArray, List.getElem?_cons_zero] at c0
  clear h h1
  go_enter Try.func10, Try.ntmps10
  go_wp2_with fail
  refine bodyPost_ret (results_tmp rfl _ _ _) rfl ⟨rfl, Below.refl _ _⟩
set_option maxRecDepth 100000 in
set_option maxHeartbeats 1000000 in
theorem MNewE_at (n : Int) (X : World) (h : ¬ (0 ≤ n ∧ n ≤ 268435456)) :
    Calls Try.prog 20 #[.int .i64 n] X fun y X' => y = .returned (.tuple #[.pointer none, .int .i64 2]) ∧ Below X.heap.size X X' := by
  by_cases h1 : n < 0
  · have t1 : decide (n < 0) = true := decide_eq_true h1
    clear h1 h
    go_enter Try.func20, Try.ntmps20
    go_wp2_with fail
    refine bodyPost_ret (results_tmp2 rfl _ _ _) rfl ⟨rfl, Below.refl _ _⟩
  have t1 : decide (n < 0) = false := decide_eq_false h1
  have h2 : n > 268435456 := by omega
  have t2 : decide (n > 268435456) = true := decide_eq_true h2
  have t2' : decide (268435456 < n) = true := decide_eq_true h2
  clear h1 h2 h
  go_enter Try.func20, Try.ntmps20
  go_wp2_with fail
  refine bodyPost_ret (results_tmp2 rfl _ _ _) rfl ⟨rfl, Below.refl _ _⟩
set_option maxRecDepth 100000 in
set_option maxHeartbeats 1000000 in
theorem MNew_at (n : Int) (X : World) (h : 0 ≤ n ∧ n ≤ 268435456) :
    Calls Try.prog 20 #[.int .i64 n] X fun y X' => ∃ g, y = .returned (.tuple #[.pointer (some ⟨g, 0, none⟩), .int .i64 0]) ∧ X.heap.size ≤ g ∧ IsMs X' g n [] ∧ Below X.heap.size X X' := by
  have t1 : decide (n < 0) = false := decide_eq_false (by omega)
  have t2 : decide (n > 268435456) = false := decide_eq_false (by omega)
  have t2' : decide (268435456 < n) = false := decide_eq_false (by omega)
  have m0 := IsMp.new X
  have b0 := (Below.refl X.heap.size X).alloc (Nat.le_refl _) (.map #[] 0)
  have b1 := b0.alloc b0.size (.cells #[.int .i64 n, .map (some X.heap.size)] 69)
  have k1 := Cls.new (X.alloc (.map #[] 0)) 69 #[.int .i64 n, .map (some X.heap.size)]
  have m1 : IsMp ((X.alloc (.map #[] 0)).alloc (.cells #[.int .i64 n, .map (some X.heap.size)] 69)) X.heap.size [] := m0.same (heap_alloc_old _ _ m0.lt)
  have HR : Hid (IsMs ((X.alloc (.map #[] 0)).alloc (.cells #[.int .i64 n, .map (some X.heap.size)] 69)) (X.alloc (.map #[] 0)).heap.size n []) := hide ⟨_, k1, m1⟩
  have HB := hide b1
  have HZ := hide b0.size
  rw [World.size_alloc] at HR HZ
  have R := run_makeMap (P := Try.prog) 67 X
  clear h m0 b0 b1 k1 m1
  go_enter Try.func20, Try.ntmps20
  go_wp2_with fail
  refine bodyPost_ret (results_tmp2 rfl _ _ _) rfl ⟨_, rfl, unhide HZ, unhide HR, unhide HB⟩
set_option maxRecDepth 100000 in
theorem zero_mk (X : World) : (zeroValue 42).run Try.prog X = .ok (.agg #[.string ⟨#[]⟩, .int .i64 0, .int .i64 0]) X := by
  rfl
set_option maxRecDepth 100000 in
set_option maxHeartbeats 1000000 in
theorem MGet_at (g : Nat) (n : Int) (L : List Mk) (s : ByteArray) (X : World) (h : IsMs X g n L) :
    Calls Try.prog 12 #[.pointer (some ⟨g, 0, none⟩), .string s] X fun y X' => y = .returned (.tuple #[((getM s L).map mkV).getD (.agg #[.string ⟨#[]⟩, .int .i64 0, .int .i64 0]), .bool (getM s L).isSome]) ∧ Below X.heap.size X X' := by
  have b0 := (Below.refl X.heap.size X).alloc (Nat.le_refl _) (.cells #[.string ⟨#[]⟩, .int .i64 0, .int .i64 0] 42)
  have h0 := h.below b0 (Nat.le_refl _)
  obtain ⟨r, h1, h2⟩ := h0.c
  have c1 := h1.cell 1
  simp only [List.getElem?_toArray, List.getElem?_cons_zero, List.getElem?_cons_succ] at c1
  have k0 := Cls.new X 42 #[.string ⟨#[]⟩, .int .i64 0, .int .i64 0]
  have hlt : g ≠ X.heap.size := by
    obtain ⟨_, hh, _⟩ := h.c
    exact Nat.ne_of_lt hh.lt
  have R := run_lookup_mk (P := Try.prog) (X.alloc (.cells #[.string ⟨#[]⟩, .int .i64 0, .int .i64 0] 42)) Try.underlying67 Try.underlying9 (zero_mk _) h2 s
  obtain ⟨p, q, u, b, hv, hb⟩ : ∃ p q u b, ((getM s L).map mkV).getD (.agg #[.string ⟨#[]⟩, .int .i64 0, .int .i64 0]) = .agg #[.string p, .int .i64 q, .int .i64 u] ∧ (getM s L).isSome = b := by
    cases getM s L with
    | none => exact ⟨_, _, _, _, rfl, rfl⟩
    | some m => exact ⟨m.n, m.p, m.g, true, rfl, rfl⟩
  rw [hv, hb] at R ⊢
  clear h h0 h1 h2 hv hb
  have f0 := k0.frozen 0
  have f1 := k0.frozen 1
  have f2 := k0.frozen 2
  have e0 := k0.cell 0
  have e1 := k0.cell 1
  have e2 := k0.cell 2
  simp only [List.getElem?_toArray, List.getElem?_cons_zero, List.getElem?_cons_succ] at e0 e1 e2
  have HK := hide k0
  have HB := hide b0
  clear k0 b0
  go_enter Try.func12, Try.ntmps12
  go_upto_region 4 with fail
  have kA := (unhide HK).alloc (.cells #[.string p, .int .i64 q, .int .i64 u] 42)
  have kB := Cls.new (X.alloc (.cells #[.string ⟨#[]⟩, .int .i64 0, .int .i64 0] 42)) 42 #[.string p, .int .i64 q, .int .i64 u]
  rw [World.size_alloc] at kB
  have b2 := (unhide HB).alloc (unhide HB).size (.cells #[.string p, .int .i64 q, .int .i64 u] 42)
  have HB9 := hide (((b2.setCell (p := ⟨X.heap.size, 0, none⟩) (Nat.le_refl _) (.string p)).setCell (p := ⟨X.heap.size, 1, none⟩) (Nat.le_refl _) (.int .i64 q)).setCell (p := ⟨X.heap.size, 2, none⟩) (Nat.le_refl _) (.int .i64 u))
  have k9 := ((kA.set 0 (.string p)).set 1 (.int .i64 q)).set 2 (.int .i64 u)
  have a0 := kA.cell 0
  have a1 := kA.cell 1
  have a2 := kA.cell 2
  have g0 := kA.frozen 0
  have g1 := kA.frozen 1
  have g2 := kA.frozen 2
  have d0 := kB.cell 0
  have d1 := kB.cell 1
  have d2 := kB.cell 2
  have r0 := k9.cell 0
  have r1 := k9.cell 1
  have r2 := k9.cell 2
  simp only [List.getElem?_toArray, List.getElem?_cons_zero, List.getElem?_cons_succ, List.setIfInBounds_toArray, List.set_cons_zero, List.set_cons_succ] at a0 a1 a2 d0 d1 d2 r0 r1 r2
  clear kA kB k9 b2 HK HB R c1 e0 e1 e2 f0 f1 f2
  generalize (X.alloc (.cells #[.string ⟨#[]⟩, .int .i64 0, .int .i64 0] 42)).alloc (.cells #[.string p, .int .i64 q, .int .i64 u] 42) = w2 at *
  go_wp2_with fail
  refine bodyPost_ret (v := .tuple #[.agg #[.string p, .int .i64 q, .int .i64 u], .bool b]) (by simp [results, Try.results12, go_sem, r0, r1, r2]) rfl ⟨rfl, unhide HB9⟩
end Go.Proofs.Ytfllomlighlejaa
end
