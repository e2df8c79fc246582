/- A block of cells of one's own, of any number. · Layer 16: ranges in memory: New, Len, Get (Mkb's text, turned). -/
import Derived.Test.YtifpjdodignflaaRp07
import Derived.Test.YtifpjdodignflaaRp00
import Derived.Deep.Cut

section
namespace Go.Proofs.Ytifpjdodignflaa
open Go.ChangeShapes Go.WideShapes Go.ChangeAt Go.RowKit

def Cls (W : World) (B : Nat) (t : TypeId) (cs : Array Value) : Prop := W.heap[B]? = some (.cells cs t (0, 0))
theorem Cls.lt {W : World} {B : Nat} {t : TypeId} {cs : Array Value} (h : Cls W B t cs) : B < W.heap.size := (Array.getElem?_eq_some_iff.1 h).1
theorem Cls.cell {W : World} {B : Nat} {t : TypeId} {cs : Array Value} (h : Cls W B t cs) (i : Nat) : W.cell? ⟨B, i, none⟩ = cs[i]? := by simp [World.cell?, show W.heap[B]? = _ from h]
theorem Cls.frozen {W : World} {B : Nat} {t : TypeId} {cs : Array Value} (h : Cls W B t cs) (i : Nat) : W.frozen? ⟨B, i, none⟩ = false := by simp [World.frozen?, show W.heap[B]? = _ from h]
theorem Cls.new (W : World) (t : TypeId) (cs : Array Value) : Cls (W.alloc (.cells cs t)) W.heap.size t cs := World.alloc_heap_new W _
theorem Cls.same {W W' : World} {B : Nat} {t : TypeId} {cs : Array Value} (h : Cls W B t cs) (hb : W'.heap[B]? = W.heap[B]?) : Cls W' B t cs := hb.trans h
theorem Cls.below {W W' : World} {B N : Nat} {t : TypeId} {cs : Array Value} (h : Cls W B t cs) (hb : Below N W W') (hB : B < N) : Cls W' B t cs := h.same (hb.block B hB)
theorem Cls.kb {q : Nat → Prop} {N : Nat} {W W' : World} {B : Nat} {t : TypeId} {cs : Array Value} (h : Cls W B t cs) (hb : KB q N W W') (hB : q B ∨ N ≤ B) : Cls W' B t cs := h.same (hb.2 B hB h.lt)
theorem Cls.alloc {W : World} {B : Nat} {t : TypeId} {cs : Array Value} (h : Cls W B t cs) (o : Obj) : Cls (W.alloc o) B t cs := h.same (Below.heap_alloc W o B h.lt)
theorem Cls.other {W : World} {B : Nat} {t : TypeId} {cs : Array Value} (h : Cls W B t cs) (p : Addr) (v : Value) (hp : B ≠ p.block) : Cls (W.setCell p v) B t cs := h.same (Below.heap_setCell W p v B hp)
theorem Cls.set {W : World} {B : Nat} {t : TypeId} {cs : Array Value} (h : Cls W B t cs) (i : Nat) (v : Value) : Cls (W.setCell ⟨B, i, none⟩ v) B t (cs.setIfInBounds i v) := by
  have hl := h.lt
  show (W.heap.modify B _)[B]? = _
  rw [Array.getElem?_eq_getElem (by rw [Array.size_modify]; exact hl), Array.getElem_modify_self]
  have := h
  unfold Cls at this
  rw [Array.getElem?_eq_getElem hl] at this
  rw [Option.some.inj this]
  rfl
theorem setCell_size (W : World) (p : Addr) (v : Value) : (W.setCell p v).heap.size = W.heap.size := by show (W.heap.modify _ _).size = _; rw [Array.size_modify]
theorem setCell_below {N : Nat} (W : World) (p : Addr) (v : Value) (h : N ≤ p.block) : Below N W (W.setCell p v) := (Below.refl N W).setCell (p := p) h v

end Go.Proofs.Ytifpjdodignflaa
end

section
namespace Go.Proofs.Ytifpjdodignflaa
open Go.ChangeShapes Go.WideShapes Go.ChangeAt Go.RowKit
attribute [local go_sem] Oper.semAt_some

/-- a *Marks: the text's length and the map -/
structure IsRs (X : World) (g : Nat) (n : Int) (L : List Rg) : Prop where
  c : ∃ r, Cls X g 67 #[.int .i64 n, .map (some r)] ∧ IsRp X r L
theorem IsRs.below {X Y : World} {g N : Nat} {n : Int} {L : List Rg} (h : IsRs X g n L) (hb : Below N X Y) (hN : X.heap.size ≤ N) : IsRs Y g n L := by
  obtain ⟨r, h1, h2⟩ := h.c
  exact ⟨r, h1.below hb (Nat.lt_of_lt_of_le h1.lt hN), h2.below hb hN⟩
set_option maxRecDepth 100000 in
set_option maxHeartbeats 1000000 in
theorem GLen_at (g : Nat) (n : Int) (L : List Rg) (X : World) (h : IsRs X g n L) :
    Calls Try.prog 32 #[.pointer (some ⟨g, 0, none⟩)] X fun y X' => y = .returned (.int .i64 n) ∧ Below X.heap.size X X' := by
  obtain ⟨r, h1, _⟩ := h.c
  have c0 := h1.cell 0
  simp only [List.getElem?_toArray, List.getElem?_cons_zero] at c0
  clear h h1
  go_enter Try.func32, Try.ntmps32
  go_wp2_with fail
  refine bodyPost_ret (results_tmp rfl _ _ _) rfl ⟨rfl, Below.refl _ _⟩
set_option maxRecDepth 100000 in
set_option maxHeartbeats 1000000 in
theorem GNewE_at (n : Int) (X : World) (h : ¬ (0 ≤ n ∧ n ≤ 268435456)) :
    Calls Try.prog 9 #[.int .i64 n] X fun y X' => y = .returned (.tuple #[.pointer none, .int .i64 2]) ∧ Below X.heap.size X X' := by
  by_cases h1 : n < 0
  · have t1 : decide (n < 0) = true := decide_eq_true h1
    clear h1 h
    go_enter Try.func9, Try.ntmps9
    go_wp2_with fail
    refine bodyPost_ret (results_tmp2 rfl _ _ _) rfl ⟨rfl, Below.refl _ _⟩
  have t1 : decide (n < 0) = false := decide_eq_false h1
  have h2 : n > 268435456 := by omega
  have t2 : decide (n > 268435456) = true := decide_eq_true h2
  have t2' : decide (268435456 < n) = true := decide_eq_true h2
  clear h1 h2 h
  go_enter Try.func9, Try.ntmps9
  go_wp2_with fail
  refine bodyPost_ret (results_tmp2 rfl _ _ _) rfl ⟨rfl, Below.refl _ _⟩
set_option maxRecDepth 100000 in
set_option maxHeartbeats 1000000 in
theorem GNew_at (n : Int) (X : World) (h : 0 ≤ n ∧ n ≤ 268435456) :
    Calls Try.prog 9 #[.int .i64 n] X fun y X' => ∃ g, y = .returned (.tuple #[.pointer (some ⟨g, 0, none⟩), .int .i64 0]) ∧ X.heap.size ≤ g ∧ IsRs X' g n [] ∧ Below X.heap.size X X' := by
  have t1 : decide (n < 0) = false := decide_eq_false (by omega)
  have t2 : decide (n > 268435456) = false := decide_eq_false (by omega)
  have t2' : decide (268435456 < n) = false := decide_eq_false (by omega)
  have m0 := IsRp.new X
  have b0 := (Below.refl X.heap.size X).alloc (Nat.le_refl _) (.map #[] 0)
  have b1 := b0.alloc b0.size (.cells #[.int .i64 n, .map (some X.heap.size)] 67)
  have k1 := Cls.new (X.alloc (.map #[] 0)) 67 #[.int .i64 n, .map (some X.heap.size)]
  have m1 : IsRp ((X.alloc (.map #[] 0)).alloc (.cells #[.int .i64 n, .map (some X.heap.size)] 67)) X.heap.size [] := m0.same (heap_alloc_old _ _ m0.lt)
  have HR : Hid (IsRs ((X.alloc (.map #[] 0)).alloc (.cells #[.int .i64 n, .map (some X.heap.size)] 67)) (X.alloc (.map #[] 0)).heap.size n []) := hide ⟨_, k1, m1⟩
  have HB := hide b1
  have HZ := hide b0.size
  rw [World.size_alloc] at HR HZ
  have R := run_makeMap (P := Try.prog) 65 X
  clear h m0 b0 b1 k1 m1
  go_enter Try.func9, Try.ntmps9
  go_wp2_with fail
  refine bodyPost_ret (results_tmp2 rfl _ _ _) rfl ⟨_, rfl, unhide HZ, unhide HR, unhide HB⟩
set_option maxRecDepth 100000 in
theorem zero_rg (X : World) : (zeroValue 37).run Try.prog X = .ok (.agg #[.string ⟨#[]⟩, .int .i64 0, .int .i64 0, .int .i64 0, .int .i64 0]) X := by
  rfl
set_option maxRecDepth 100000 in
set_option maxHeartbeats 1000000 in
theorem GGet_at (g : Nat) (n : Int) (L : List Rg) (s : ByteArray) (X : World) (h : IsRs X g n L) :
    Calls Try.prog 21 #[.pointer (some ⟨g, 0, none⟩), .string s] X fun y X' => y = .returned (.tuple #[((getG s L).map rgV).getD (.agg #[.string ⟨#[]⟩, .int .i64 0, .int .i64 0, .int .i64 0, .int .i64 0]), .bool (getG s L).isSome]) ∧ Below X.heap.size X X' := by
  have b0 := (Below.refl X.heap.size X).alloc (Nat.le_refl _) (.cells #[.string ⟨#[]⟩, .int .i64 0, .int .i64 0, .int .i64 0, .int .i64 0] 37)
  have h0 := h.below b0 (Nat.le_refl _)
  obtain ⟨r, h1, h2⟩ := h0.c
  have c1 := h1.cell 1
  simp only [List.getElem?_toArray, List.getElem?_cons_zero, List.getElem?_cons_succ] at c1
  have k0 := Cls.new X 37 #[.string ⟨#[]⟩, .int .i64 0, .int .i64 0, .int .i64 0, .int .i64 0]
  have hlt : g ≠ X.heap.size := by
    obtain ⟨_, hh, _⟩ := h.c
    exact Nat.ne_of_lt hh.lt
  have R := run_lookup_rg (P := Try.prog) (X.alloc (.cells #[.string ⟨#[]⟩, .int .i64 0, .int .i64 0, .int .i64 0, .int .i64 0] 37)) Try.underlying65 Try.underlying9 (zero_rg _) h2 s
  obtain ⟨p, q, u, s1, t1, b, hv, hb⟩ : ∃ p q u s1 t1 b, ((getG s L).map rgV).getD (.agg #[.string ⟨#[]⟩, .int .i64 0, .int .i64 0, .int .i64 0, .int .i64 0]) = .agg #[.string p, .int .i64 q, .int .i64 u, .int .i64 s1, .int .i64 t1] ∧ (getG s L).isSome = b := by
    cases getG s L with
    | none => exact ⟨_, _, _, _, _, _, rfl, rfl⟩
    | some m => exact ⟨m.n, m.lo, m.hi, m.st, m.en, true, rfl, rfl⟩
  rw [hv, hb] at R ⊢
  clear h h0 h1 h2 hv hb
  have f0 := k0.frozen 0
  have f1 := k0.frozen 1
  have f2 := k0.frozen 2
  have f3 := k0.frozen 3
  have f4 := k0.frozen 4
  have e0 := k0.cell 0
  have e1 := k0.cell 1
  have e2 := k0.cell 2
  have e3 := k0.cell 3
  have e4 := k0.cell 4
  simp only [List.getElem?_toArray, List.getElem?_cons_zero, List.getElem?_cons_succ] at e0 e1 e2 e3 e4
  have HK := hide k0
  have HB := hide b0
  clear k0 b0
  go_enter Try.func21, Try.ntmps21
  go_upto_region 4 with fail
  have kA := (unhide HK).alloc (.cells #[.string p, .int .i64 q, .int .i64 u, .int .i64 s1, .int .i64 t1] 37)
  have kB := Cls.new (X.alloc (.cells #[.string ⟨#[]⟩, .int .i64 0, .int .i64 0, .int .i64 0, .int .i64 0] 37)) 37 #[.string p, .int .i64 q, .int .i64 u, .int .i64 s1, .int .i64 t1]
  rw [World.size_alloc] at kB
  have b2 := (unhide HB).alloc (unhide HB).size (.cells #[.string p, .int .i64 q, .int .i64 u, .int .i64 s1, .int .i64 t1] 37)
  have HB9 := hide (((((b2.setCell (p := ⟨X.heap.size, 0, none⟩) (Nat.le_refl _) (.string p)).setCell (p := ⟨X.heap.size, 1, none⟩) (Nat.le_refl _) (.int .i64 q)).setCell (p := ⟨X.heap.size, 2, none⟩) (Nat.le_refl _) (.int .i64 u)).setCell (p := ⟨X.heap.size, 3, none⟩) (Nat.le_refl _) (.int .i64 s1)).setCell (p := ⟨X.heap.size, 4, none⟩) (Nat.le_refl _) (.int .i64 t1))
  have k9 := ((((kA.set 0 (.string p)).set 1 (.int .i64 q)).set 2 (.int .i64 u)).set 3 (.int .i64 s1)).set 4 (.int .i64 t1)
  have a0 := kA.cell 0
  have a1 := kA.cell 1
  have a2 := kA.cell 2
  have a3 := kA.cell 3
  have a4 := kA.cell 4
  have g0 := kA.frozen 0
  have g1 := kA.frozen 1
  have g2 := kA.frozen 2
  have g3 := kA.frozen 3
  have g4 := kA.frozen 4
  have d0 := kB.cell 0
  have d1 := kB.cell 1
  have d2 := kB.cell 2
  have d3 := kB.cell 3
  have d4 := kB.cell 4
  have r0 := k9.cell 0
  have r1 := k9.cell 1
  have r2 := k9.cell 2
  have r3 := k9.cell 3
  have r4 := k9.cell 4
  simp only [List.getElem?_toArray, List.getElem?_cons_zero, List.getElem?_cons_succ, List.setIfInBounds_toArray, List.set_cons_zero, List.set_cons_succ] at a0 a1 a2 a3 a4 d0 d1 d2 d3 d4 r0 r1 r2 r3 r4
  clear kA kB k9 b2 HK HB R c1 e0 e1 e2 e3 e4 f0 f1 f2 f3 f4
  generalize (X.alloc (.cells #[.string ⟨#[]⟩, .int .i64 0, .int .i64 0, .int .i64 0, .int .i64 0] 37)).alloc (.cells #[.string p, .int .i64 q, .int .i64 u, .int .i64 s1, .int .i64 t1] 37) = w2 at *
  go_wp2_with fail
  refine bodyPost_ret (v := .tuple #[.agg #[.string p, .int .i64 q, .int .i64 u, .int .i64 s1, .int .i64 t1], .bool b]) (by simp [results, Try.results21, go_sem, r0, r1, r2, r3, r4]) rfl ⟨rfl, unhide HB9⟩
end Go.Proofs.Ytifpjdodignflaa
end
