/- Layer 7: the contract of lines' Starts. -/
import Derived.Test.YtkdnanlgkedjgabDoorDn21
import Derived.Deep.AppendSrc
import Derived.Deep.AppendLies
import Derived.OwnWalkIn

namespace Go.Proofs.YtkdnanlgkedjgabDoor
open Go.ChangeShapes Go.WideShapes Go.ChangeAt Go.RowKit
attribute [local go_sem] Oper.semAt_some

set_option maxRecDepth 100000 in
theorem info_intS : ∃ i, Tryd.prog.info? 3 = some i ∧ i.zero = some (.int .i64 0) ∧ i.size = 1 ∧ i.bytes = 8 := by
  refine ⟨_, rfl, ?_, ?_, ?_⟩ <;> rfl
theorem push_intS (W : World) (B n : Nat) (v : Value) (xs : List Value) (x : Int) (ty : TypeId) (h : W.ownsRow B 3 1 v n xs) (hn : n ≤ 4194304) (hB : B ≤ W.heap.size) :
    ∃ g c W', (Builtin.append_ #[60, 60] ty #[v, .slice (some ⟨W.heap.size, 0, none⟩) 1 1]).run Tryd.prog (W.alloc (.cells #[.int .i64 x] 3)) = .ok (.slice (some ⟨g, 0, none⟩) (n + 1) c) W' ∧
      W'.ownsRow B 3 1 (.slice (some ⟨g, 0, none⟩) (n + 1) c) (n + 1) (xs ++ [.int .i64 x]) ∧ Below B W W' := by
  obtain ⟨i, hi, hz, hs, hby⟩ := info_intS
  have hr := World.ownsRow.alloc h (.cells #[.int .i64 x] 3)
  obtain ⟨g, c, W', hrun, ho, hg, _, _⟩ := run_append_lies (P := Tryd.prog) (W.alloc (.cells #[.int .i64 x] 3)) 60 ty B 3 i (.int .i64 0) 1 8 Tryd.underlying60 hi hz hs hby rfl (by decide)
    v n xs hr ⟨W.heap.size, 0, none⟩ 1 1 [.int .i64 x] rfl
    (fun j u hj => by
      cases j with
      | zero => simp at hj; subst hj; rw [Addr.add_lit]; exact (World.cell?_alloc_mark W _ _ (0, 0) 0).trans rfl
      | succ j => simp at hj)
    (fun u hu => by simp at hu; subst hu; rfl) (by decide) (by unfold maxLen; omega) (by omega) (by simp; omega) _ rfl
  exact ⟨g, c, W', hrun, ho, ((Below.refl B W).alloc hB _).grown hg (by simp; omega) (fun k hk => (hr.lt k hk).1)⟩

theorem wpListIn_append_known {F : Fence} {n : Nat} {P : Program} {w : World} {ops : Array Oper} {rest : List Oper} {o : Oper} {a : Act} {Q : Exit → Act → World → Prop}
    (hg : o.guard = none) (s x : Operand) (t tx : TypeId) (hop : o.op = Op.call { callee := Callee.builtin Builtin.append, args := #[s, x], argTypes := #[t, tx] }) (v u : Value) (hs : a.eval s = v) (hx : a.eval x = u) (v' : Value) (w' : World)
    (hr : (Builtin.append_ #[t, tx] o.type #[v, u]).run P w = .ok v' w') (h : wpListIn F n P ops Q rest (a.put o.dst v') w') : wpListIn F n P ops Q (o :: rest) a w := by
  refine wpListIn_plain hg fun K hK' => ?_
  unfold Oper.wpIn
  refine ⟨?_, ?_⟩
  · simp [Oper.about, hop, resolve, Target.leads, Sem.run_pure]
  · rw [Oper.semAt_plain F _ _ (by rw [hop]; intro c hc'; cases hc')]
    simp [execOp, hop, resolve, invoke, builtin, hs, hx, hr, Result.andThen]
    exact hK' _ _ h
def stsV (E : List Ln) : List Value := E.map fun e => .int .i64 (e.2.1 : Int)
theorem row_ch {A B' : World} {N n k s : Nat} {v : Value} {t : TypeId} {xs : List Value} (h : A.ownsRow (N + n) t s v k xs) (hc : Ch N n A B') : B'.ownsRow (N + n) t s v k xs := by
  refine ⟨h.1, ?_⟩
  rcases h.2 with h2 | ⟨g', c', cur, h1, h2, h3, h4⟩
  · exact Or.inl h2
  · exact Or.inr ⟨g', c', cur, h1, h2, (hc.2 g' h2 (heap_lt h3)).trans h3, h4⟩
/-- what Starts' loop keeps -/
structure StI (w : World) (n N : Nat) (pre : List Ln) (X : World) : Prop where
  r : ∃ v, Cls X n 60 #[v] ∧ X.ownsRow (N + 3) 3 1 v pre.length (stsV pre)
  b : Below n w X
theorem StI.abd {w : World} {n N : Nat} (hN : n + 1 ≤ N) : AbdC N 3 (StI w n N) := fun _ _ _ h hb => by
  obtain ⟨v, h1, h2⟩ := h.r
  exact ⟨⟨v, h1.below hb.1 (by omega), row_ch h2 hb⟩, h.b.trans (hb.1.mono (by omega))⟩
theorem row_baseS {W : World} {B B' k : Nat} {v : Value} {t : TypeId} {s : Nat} {xs : List Value} (h : W.ownsRow B t s v k xs) (hB : B' ≤ B) : W.ownsRow B' t s v k xs := by
  refine ⟨h.1, ?_⟩
  rcases h.2 with h2 | ⟨g', c', cur, h1, h2, h3⟩
  · exact Or.inl h2
  · exact Or.inr ⟨g', c', cur, h1, Nat.le_trans hB h2, h3⟩

set_option maxRecDepth 100000 in
set_option maxHeartbeats 4000000 in
theorem Starts_at (a0 : Option Addr) (cap : Nat) (l : List Int) (w : World) (hB : IsB w a0 cap l) (hl : l.length ≤ 1048576) :
    Calls Tryd.prog 50 #[.slice a0 l.length cap] w fun y w' => ∃ v, y = .returned v ∧ w'.ownsRow w.heap.size 3 1 v (LN l).length (stsV (LN l)) ∧ Below w.heap.size w w' := by
  refine (callsIn_wide (n := 4)).1 ?_
  refine callsIn_of_wp_marks Tryd.func50 rfl trivial ?_ rfl
  simp only [Tryd.ntmps50, List.size_toArray, List.length_cons, List.length_nil, Nat.reduceAdd, Nat.reduceSub, Array.replicate_succ, Array.replicate_zero, List.push_toArray, List.append_toArray, List.nil_append, List.cons_append]
  refine wpIn_wide.2 ?_
  have hLN := LN_len l
  have k1 := Cls.new w 60 #[.slice none 0 0]
  have b1 := (Below.refl w.heap.size w).alloc (Nat.le_refl _) (.cells #[.slice none 0 0] 60)
  have z1 : (w.alloc (.cells #[.slice none 0 0] 60)).heap.size = w.heap.size + 1 := by simp
  go_wp2_with fail
  generalize w.alloc (.cells #[.slice none 0 0] 60) = w2 at *
  refine (allL_at a0 l.length cap w2).mono ?_
  rintro y w3' ⟨rfl, rfl⟩
  have hseq := lines_seq w w2 a0 cap l hB b1
  have k2 := k1.alloc (.cells #[.slice a0 l.length cap] 22)
  have b2 := b1.alloc (o := .cells #[.slice a0 l.length cap] 22) b1.size
  have z3 : (w2.alloc (.cells #[.slice a0 l.length cap] 22)).heap.size = w.heap.size + 2 := by simp [z1]
  clear k1 b1
  go_wp2_with fail
  generalize w2.alloc (.cells #[.slice a0 l.length cap] 22) = w3 at *
  generalize w2.heap.size = gB at *
  subst z1
  clear hB
  have i0 : StI w w.heap.size w3.heap.size [] w3 := ⟨⟨_, k2, World.ownsRow_nil _ _ _ _⟩, b2⟩
  clear k2 b2
  generalize hn : w.heap.size = n at *
  refine (wpIn_wide (n := 4)).1 ?_
  refine range_q (gf := 77) (lb := #[.pointer (some ⟨n + 1, 0, none⟩)]) rfl (enters_of Tryd.func77 (by kernel_rfl) rfl) hseq (Below.refl _ _) (fun k hk => by rcases hk with h | rfl <;> omega) (fun _ => rfl)
    (StI w n w3.heap.size) (fun _ _ _ => False) (StI.abd (by omega)) (fun _ _ _ _ h _ => h) i0 (by decide)
    (fun x a X => ∃ Bx, Cls X Bx 114 #[.int .i64 (x.2.1 : Int), .int .i64 (x.2.2.1 : Int), .int .i64 (x.2.2.2 : Int)] ∧ n + 2 ≤ Bx ∧ a = { tmps := #[.slice a0 l.length cap, undef, .slice none 0 0, .pointer (some ⟨n, 0, none⟩), undef, .pointer (some ⟨Bx, 0, none⟩), .slice a0 l.length cap, .func (.func 77) #[] #[.pointer (some ⟨n + 1, 0, none⟩)], .int .i64 (x.1 : Int), .agg #[.int .i64 (x.2.1 : Int), .int .i64 (x.2.2.1 : Int), .int .i64 (x.2.2.2 : Int)], undef, undef, undef, undef, undef, undef], defers := [] }) ?hax ?assign ?body ?done ?stop
  case hax =>
    rintro x a' X k o o' hX ⟨Bx, hc, hlt, rfl⟩
    refine ⟨Bx, hc.same (World.putObj_heap_other ?_), hlt, rfl⟩
    rintro rfl
    rw [show X.heap[Bx]? = _ from hc] at hX
    cases hX
  case assign =>
    rintro k pre x X K hpre hi hsz hK
    unfold encL lnV
    gi_wp2
    exact hK _ _ ((Below.refl _ X).alloc (Nat.le_refl _) _) ⟨X.heap.size, Cls.new X _ _, by omega, rfl⟩
  case body =>
    rintro kk pre x a' X hk ⟨rec, hrec⟩ hpre hi ⟨Bx, hx, hlt, rfl⟩ hsz
    obtain ⟨v, h1, h2⟩ := hi.r
    have hpl := (pre_num hpre).2.1
    have hb := hi.b
    clear hi hpre
    have c1 := h1.cell 0
    have x0 := hx.cell 0
    simp only [List.getElem?_toArray, List.getElem?_cons_zero] at c1 x0
    obtain ⟨g, c, W', r1, o1, y1⟩ := push_intS X (w3.heap.size + 3) pre.length v (stsV pre) (x.2.1 : Int) 60 h2 (by omega) (by omega)
    have h1' := h1.below y1 (by omega)
    have f1 := h1'.frozen 0
    have d1 := h1'.cell 0
    simp only [List.getElem?_toArray, List.getElem?_cons_zero] at d1
    have R1 := hide r1
    clear r1
    gi_wp2_with (gi_at_builtin; refine wpListIn_append_known rfl _ _ 60 60 rfl _ _ rfl rfl _ _ (unhide R1) ?_)
    have s2 := h1'.set 0 (.slice (some ⟨g, 0, none⟩) (pre.length + 1) c)
    simp only [List.setIfInBounds_toArray, List.set_cons_zero] at s2
    have kq : KQ (own (fun k => k < n ∨ k = n + 1) w3.heap.size (2 + 1)) X W' := ⟨y1.size, fun k hk hl => y1.block k (by unfold own at hk; omega)⟩
    refine ⟨kq.trans (KQ.setCell W' ⟨n, 0, none⟩ _ (by show ¬ ((n < n ∨ n = n + 1) ∨ (w3.heap.size ≤ n ∧ n < w3.heap.size + (2 + 1))); omega)), ⟨⟨_, s2, ?_⟩, (hb.trans (y1.mono (by omega))).trans (setCell_below W' _ _ (Nat.le_refl _))⟩⟩
    rw [List.length_append, List.length_singleton]
    have e : stsV (pre ++ [x]) = stsV pre ++ [.int .i64 (x.2.1 : Int)] := by simp [stsV]
    rw [e]
    refine ⟨o1.1, ?_⟩
    rcases o1.2 with h | ⟨g', c', cur, q1, q2, q3, q4⟩
    · exact Or.inl h
    · exact Or.inr ⟨g', c', cur, q1, q2, (Below.heap_setCell W' ⟨n, 0, none⟩ _ g' (by show g' ≠ n; omega)).trans q3, q4⟩
  case done =>
    rintro D X hD hi hK
    obtain ⟨v, h1, h2⟩ := hi.r
    have c1 := h1.cell 0
    simp only [List.getElem?_toArray, List.getElem?_cons_zero] at c1
    have hb := hi.b
    clear hi
    go_wp2_with fail
    refine ⟨by simp, .inl ⟨_, _, rfl, run_takeDeferred hK, ?_⟩⟩
    refine ⟨_, results_tmp rfl _ _ _, ?_⟩
    refine ⟨v, rfl, ?_, hn ▸ (hb.trans (below_putl X D _ (by omega)))⟩
    refine row_baseS (B := w3.heap.size + 3) ⟨h2.1, ?_⟩ (by omega)
    rcases h2.2 with h | ⟨g', c', cur, q1, q2, q3, q4⟩
    · exact Or.inl h
    · refine Or.inr ⟨g', c', cur, q1, q2, (World.putObj_heap_other ?_).trans q3, q4⟩
      rintro rfl
      rw [q3] at hK
      cases hK
  case stop =>
    rintro D c pre X hD hpre h hK
    exact h.elim

end Go.Proofs.YtkdnanlgkedjgabDoor
