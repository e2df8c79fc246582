/- SeekBytes' walk. -/
import Derived.Test.YtophdhpkinedgaaGreatDoorSb46
import Derived.Test.YtophdhpkinedgaaGreatDoorSb47

namespace Go.Proofs.YtophdhpkinedgaaGreatDoor
open Go.ChangeShapes Go.WideShapes Go.ChangeAt Go.RowKit
attribute [local go_sem] Oper.semAt_some

set_option maxRecDepth 100000 in
theorem neqW10 (i0 i1 i2 i3 i4 i5 i6 : Int) (w : World) : (binOp .neq 44 (.agg #[.int .i64 i0, .int .i64 i1, .int .i64 i2, .int .i64 i3, .int .i64 i4, .int .i64 i5, .int .i64 i6]) (.agg #[.int .i64 i0, .int .i64 i1, .int .i64 i2, .int .i64 i3, .int .i64 i4, .int .i64 i5, .int .i64 i6])).run Tryz.prog w = .ok (.bool false) w := by simp [go_sem]
theorem step_append_knownS {P : Program} {ops : Array Oper} {o : Oper} {a : Act} {w : World} {K : Act → World → Prop} {Q : Exit → Act → World → Prop} {E : Prop} (hw : Region.wanted o (yielded ops a.tmps) = true) (s x : Operand) (t tx : TypeId)
    (ho : o.op = .call { callee := .builtin .append, args := #[s, x], argTypes := #[t, tx] }) (v u : Value) (hs : a.eval s = v) (hx : a.eval x = u) (v' : Value) (w' : World)
    (hr : (Builtin.append_ #[t, tx] o.type #[v, u]).run P w = .ok v' w') (h : K (a.put o.dst v') w') : if Region.wanted o (yielded ops a.tmps) = true then Oper.wp P o a w K Q else E := by
  rw [if_pos hw]
  unfold Oper.wp execOp
  simp only [ho, resolve, invoke, builtin, Sem.run_bind, Sem.run_pure, Result.andThen_ok, List.map_toArray, List.map_cons, List.map_nil, hs, hx, hr]
  exact h
/-- a copy in new memory -/
theorem copyN10 (w : World) (a0 : Option Addr) (cap : Nat) (l : List Int) (hB : IsN w a0 cap l) (hl : l.length ≤ 1048576) :
    ∃ a' c' w', (Builtin.append_ #[30, 30] 30 #[.slice (some ⟨w.heap.size, 0, none⟩) 0 0, .slice a0 l.length cap]).run Tryz.prog (w.alloc (.cells #[] 5)) = .ok (.slice a' l.length c') w' ∧ IsN w' a' c' l ∧ Below w.heap.size w (w.alloc (.cells #[] 5)) ∧ Below w.heap.size w w' ∧ ∀ g off, a' = some ⟨g, off, none⟩ → w.heap.size ≤ g := by
  have b0 : Below w.heap.size w (w.alloc (.cells #[] 5)) := (Below.refl _ _).alloc (Nat.le_refl _) _
  obtain ⟨v', W', h1, h2, h3, _⟩ := appG 30 (own_lit0S w) b0.size (hB.1.below b0 (Nat.le_refl _)) (by simp only [List.length_nil]; omega)
  rw [List.nil_append] at h2
  obtain ⟨a', c', rfl, hN⟩ := own_isNS h2 hB.1.2.2.2 (by omega)
  refine ⟨a', c', W', h1, hN, b0, b0.trans h3, fun g off e => ?_⟩
  subst e
  exact (World.ownsRow.lt h2 g rfl).1
theorem whV_form (T : List Int) (p : Int) : ∃ i0 i1 i2 i3 i4 i5 i6 e : Int, whV T p = .tuple #[.agg #[.int .i64 i0, .int .i64 i1, .int .i64 i2, .int .i64 i3, .int .i64 i4, .int .i64 i5, .int .i64 i6], .int .i64 e] := by
  unfold whV
  split
  · exact ⟨_, _, _, _, _, _, _, _, rfl⟩
  · exact ⟨_, _, _, _, _, _, _, _, rfl⟩
/-- what all calls answer at a place -/
structure ByF (g q N : Nat) (T : List Int) (w5 : World) (fr tr mo ln p P R C D i0 i1 i2 i3 i4 i5 i6 e : Int) : Prop where
  rt : ∀ X a c, Below w5.heap.size w5 X → IsB X a c T → Calls Tryz.prog 15 #[.slice a N c, .int .i64 fr, .int .i64 p, .int .i64 tr, .int .i64 mo] X fun y w' => y = .returned (.tuple #[.int .i64 P, .int .i64 R]) ∧ Below X.heap.size X w'
  s1 : ∀ X, Below w5.heap.size w5 X → Calls Tryz.prog 16 #[.pointer (some ⟨g, 0, none⟩), .int .i64 fr, .int .i64 p, .int .i64 tr, .int .i64 mo] X fun y w' => y = .returned (.tuple #[.int .i64 P, .int .i64 R]) ∧ Below X.heap.size X w'
  s2 : ∀ X, Below w5.heap.size w5 X → Calls Tryz.prog 16 #[.pointer (some ⟨q, 0, none⟩), .int .i64 fr, .int .i64 p, .int .i64 tr, .int .i64 mo] X fun y w' => y = .returned (.tuple #[.int .i64 P, .int .i64 R]) ∧ Below X.heap.size X w'
  lw : ∀ X a c, Below w5.heap.size w5 X → IsB X a c T → Calls Tryz.prog 17 #[.slice a N c, .int .i64 p] X fun y w' => y = .returned (.tuple #[.agg #[.int .i64 i0, .int .i64 i1, .int .i64 i2, .int .i64 i3, .int .i64 i4, .int .i64 i5, .int .i64 i6], .int .i64 e]) ∧ Below X.heap.size X w'
  w1 : ∀ X, Below w5.heap.size w5 X → Calls Tryz.prog 18 #[.pointer (some ⟨g, 0, none⟩), .int .i64 p] X fun y w' => y = .returned (.tuple #[.agg #[.int .i64 i0, .int .i64 i1, .int .i64 i2, .int .i64 i3, .int .i64 i4, .int .i64 i5, .int .i64 i6], .int .i64 e]) ∧ Below X.heap.size X w'
  w2 : ∀ X, Below w5.heap.size w5 X → Calls Tryz.prog 18 #[.pointer (some ⟨q, 0, none⟩), .int .i64 p] X fun y w' => y = .returned (.tuple #[.agg #[.int .i64 i0, .int .i64 i1, .int .i64 i2, .int .i64 i3, .int .i64 i4, .int .i64 i5, .int .i64 i6], .int .i64 e]) ∧ Below X.heap.size X w'
  la : ∀ X a c, Below w5.heap.size w5 X → IsB X a c T → Calls Tryz.prog 19 #[.slice a N c, .agg #[.int .i64 ln, .int .i64 p], .int .i64 fr, .int .i64 mo] X fun y w' => y = .returned (.tuple #[.int .i64 C, .int .i64 D]) ∧ Below X.heap.size X w'
  a1 : ∀ X, Below w5.heap.size w5 X → Calls Tryz.prog 20 #[.pointer (some ⟨g, 0, none⟩), .agg #[.int .i64 ln, .int .i64 p], .int .i64 fr, .int .i64 mo] X fun y w' => y = .returned (.tuple #[.int .i64 C, .int .i64 D]) ∧ Below X.heap.size X w'
  a2 : ∀ X, Below w5.heap.size w5 X → Calls Tryz.prog 20 #[.pointer (some ⟨q, 0, none⟩), .agg #[.int .i64 ln, .int .i64 p], .int .i64 fr, .int .i64 mo] X fun y w' => y = .returned (.tuple #[.int .i64 C, .int .i64 D]) ∧ Below X.heap.size X w'
theorem byF_of (g q : Nat) (o o2 : Option Nd) (T : List Int) (w5 : World) (fr tr mo ln p : Int) (h1 : IsRo w5 g o) (h2 : IsRo w5 q o2) (e1 : txtO o = T) (e2 : txtO o2 = T) (hm : T.length ≤ 1048576) (hW : Wt w5) :
    ∃ P R C D i0 i1 i2 i3 i4 i5 i6 e, ByF g q T.length T w5 fr tr mo ln p P R C D i0 i1 i2 i3 i4 i5 i6 e := by
  obtain ⟨i0, i1, i2, i3, i4, i5, i6, e, hw⟩ := whV_form T p
  have m1 : (txtO o).length ≤ 268435456 := by rw [e1]; omega
  have m2 : (txtO o2).length ≤ 268435456 := by rw [e2]; omega
  refine ⟨(toP fr p tr mo (EE T) : Int), toR fr p tr mo (EE T), (atP T ln p fr mo : Int), atR T ln p fr mo, i0, i1, i2, i3, i4, i5, i6, e, fun X a c hx hI => To_at a c T fr p tr mo X hI (hW.below hx).1, fun X hx => ?_, fun X hx => ?_, fun X a c hx hI => hw ▸ Where_at a c T p X hI (hW.below hx).1, fun X hx => ?_, fun X hx => ?_, fun X a c hx hI => AtL_at a c T ln p fr mo X hI (hW.below hx).1, fun X hx => ?_, fun X hx => ?_⟩
  · have := ToA10_at g o fr p tr mo X (h1.on hx) m1 (hW.below hx); rw [e1] at this; exact this
  · have := ToA10_at q o2 fr p tr mo X (h2.on hx) m2 (hW.below hx); rw [e2] at this; exact this
  · have := Where10_at g o p X (h1.on hx) m1 (hW.below hx); rw [e1, hw] at this; exact this
  · have := Where10_at q o2 p X (h2.on hx) m2 (hW.below hx); rw [e2, hw] at this; exact this
  · have := AtA10_at g o ln p fr mo X (h1.on hx) m1 (hW.below hx); rw [e1] at this; exact this
  · have := AtA10_at q o2 ln p fr mo X (h2.on hx) m2 (hW.below hx); rw [e2] at this; exact this
theorem ownS_one (w : World) (v : Value) (_hv : v.oneCell' = true) : OwnS (w.alloc (.cells #[v] 30)) w.heap.size (.slice (some ⟨w.heap.size, 0, none⟩) 1 1) [v] := by
  refine ⟨by simp, Or.inr ⟨w.heap.size, 1, #[v], rfl, Nat.le_refl _, World.alloc_heap_new w _, Nat.le_refl _, by decide, rfl, rfl⟩⟩
/-- the list of all pieces, with a copy at each end -/
theorem great_of (W : World) (a0 : Option Addr) (cap : Nat) (ls : List (List Int)) (a1 : Option Addr) (cap1 : Nat) (la : List Int) (h : IsNN W a0 ls) (hB : IsN W a1 cap1 la) (hl : la.length ≤ 1048576) (hn : ls.length ≤ 1048576) :
    ∃ p1 c1 W1 v2 W2 p3 c3 W3 p4 c4 W4,
      (Builtin.append_ #[30, 30] 30 #[.slice (some ⟨W.heap.size, 0, none⟩) 0 0, .slice a1 la.length cap1]).run Tryz.prog (W.alloc (.cells #[] 5)) = .ok (.slice p1 la.length c1) W1 ∧
      (Builtin.append_ #[22, 22] 22 #[.slice (some ⟨W1.heap.size, 0, none⟩) 1 1, .slice a0 ls.length cap]).run Tryz.prog (W1.alloc (.cells #[.slice p1 la.length c1] 30)) = .ok v2 W2 ∧
      (Builtin.append_ #[30, 30] 30 #[.slice (some ⟨W2.heap.size, 0, none⟩) 0 0, .slice a1 la.length cap1]).run Tryz.prog (W2.alloc (.cells #[] 5)) = .ok (.slice p3 la.length c3) W3 ∧
      (Builtin.append_ #[22, 22] 22 #[v2, .slice (some ⟨W3.heap.size, 0, none⟩) 1 1]).run Tryz.prog (W3.alloc (.cells #[.slice p3 la.length c3] 30)) = .ok (.slice p4 (ls.length + 2) c4) W4 ∧
      IsNN W4 p4 ([la] ++ ls ++ [la]) ∧ Below W.heap.size W W4 := by
  obtain ⟨p1, c1, W1, r1, i1, _, x1, _⟩ := copyN10 W a1 cap1 la hB hl
  have b1 : Below W1.heap.size W1 (W1.alloc (.cells #[.slice p1 la.length c1] 30)) := (Below.refl _ _).alloc (Nat.le_refl _) _
  obtain ⟨us, hu1, hu2, hu3⟩ := rows_in (h.below x1 (Nat.le_refl _))
  have hul : us.length = ls.length := hu1.1
  obtain ⟨v2, W2, r2, o2, x2, _⟩ := appR 22 (a0 := a0) (n := ls.length) (cap := cap) (ownS_one W1 (.slice p1 la.length c1) rfl) b1.size hul.symm (by
    rcases hu2 with e | ⟨g, off, e, hg, hc⟩
    · left; exact List.length_eq_zero_iff.1 (by rw [hul, e]; rfl)
    · right; exact ⟨g, off, e, fun j u hj => (b1.cell (p := ⟨g, off + j, none⟩) hg).trans (hc j u hj)⟩) hu3 (by simp only [List.length_cons, List.length_nil]; omega) (by simp)
  have x12 := b1.trans x2
  have X2 : Below W.heap.size W W2 := x1.trans (x12.mono x1.size)
  have rows2 : RowsV W2 ([.slice p1 la.length c1] ++ us) ([la] ++ ls) := ((RowsV.one i1).app hu1).on x12
  obtain ⟨p3, c3, W3, r3, i3, _, x3, hg3⟩ := copyN10 W2 a1 cap1 la (hB.below X2 (Nat.le_refl _)) hl
  have b3 : Below W3.heap.size W3 (W3.alloc (.cells #[.slice p3 la.length c3] 30)) := (Below.refl _ _).alloc (Nat.le_refl _) _
  have o3 := (o2.on x3).on b3
  have g3 := push_get W3 (.cells #[.slice p3 la.length c3] 30)
  have z1 : W1.heap.size ≤ (W3.alloc (.cells #[.slice p3 la.length c3] 30)).heap.size := Nat.le_trans x12.size (Nat.le_trans x3.size b3.size)
  obtain ⟨v4, W4, r4, o4, x4, gr4⟩ := appR 22 (a0 := some ⟨W3.heap.size, 0, none⟩) (n := 1) (cap := 1) (us := [.slice p3 la.length c3]) o3 z1 rfl (.inr ⟨W3.heap.size, 0, rfl, fun j u hj => by
    have hj0 : j = 0 := by
      have := (List.getElem?_eq_some_iff.1 hj).1
      simpa using this
    subst hj0
    simp only [World.cell?, g3]
    simpa using hj⟩) (fun u hu => by obtain rfl := List.mem_singleton.1 hu; rfl) (by simp only [List.length_cons, List.length_nil, List.length_append]; omega) (by simp)
  have rows4 : RowsV W4 ([.slice p1 la.length c1] ++ us ++ [.slice p3 la.length c3]) ([la] ++ ls ++ [la]) := by
    have t1 : RowsV W4 ([.slice p1 la.length c1] ++ us) ([la] ++ ls) := by
      have a := (RowsV.one i1).app hu1
      have bb : Below W1.heap.size W1 W4 := ((x12.trans (x3.mono x12.size)).trans (b3.mono (Nat.le_trans x12.size x3.size))).trans x4
      exact a.on bb
    refine t1.app (RowsV.one (i3.keep fun g off e hlt => ?_))
    have hge := hg3 g off e
    refine (gr4.block g (Nat.lt_of_lt_of_le hlt b3.size) (fun hh => ?_)).trans (b3.block g hlt)
    have := (World.ownsRow.lt o2 g hh.symm).2
    omega
  obtain ⟨p4, c4, rfl, hNN⟩ := o4.nn rows4
  refine ⟨p1, c1, W1, v2, W2, p3, c3, W3, p4, c4, W4, r1, r2, r3, ?_, hNN, ?_⟩
  · rw [show ls.length + 2 = ([la] ++ ls ++ [la]).length by simp]
    exact r4
  · exact X2.trans (((x3.trans (b3.mono x3.size)).mono X2.size).trans (x4.mono (Nat.le_trans x1.size (Nat.le_refl _))))
attribute [local go_sem] neqW10
theorem cls7 {Y : World} {g : Nat} {t : TypeId} {x0 x1 x2 x3 x4 x5 x6 : Value} (h : Cls Y g t #[x0, x1, x2, x3, x4, x5, x6]) : Y.cell? ⟨g, 0, none⟩ = some x0 ∧ Y.cell? ⟨g, 1, none⟩ = some x1 ∧ Y.cell? ⟨g, 2, none⟩ = some x2 ∧ Y.cell? ⟨g, 3, none⟩ = some x3 ∧ Y.cell? ⟨g, 4, none⟩ = some x4 ∧ Y.cell? ⟨g, 5, none⟩ = some x5 ∧ Y.cell? ⟨g, 6, none⟩ = some x6 :=
  ⟨(h.cell 0).trans rfl, (h.cell 1).trans rfl, (h.cell 2).trans rfl, (h.cell 3).trans rfl, (h.cell 4).trans rfl, (h.cell 5).trans rfl, (h.cell 6).trans rfl⟩
theorem sp_arith {k N : Nat} (hN : N ≤ 400) (hk : k ≤ N + 3) : wrap64 ((N : Int) + 1) = (N : Int) + 1 ∧ wrap64 ((k : Int) - 1 + 1) = ((k + 1 : Nat) : Int) - 1 ∧ wrap64 (k : Int) = ((k + 1 : Nat) : Int) - 1 ∧ (k < N + 3 → decide ((k : Int) - 1 ≤ (N : Int) + 1) = true ∧ (k : Int) - 1 ≤ (N : Int) + 1) ∧ (¬ k < N + 3 → decide ((k : Int) - 1 ≤ (N : Int) + 1) = false ∧ ¬ (k : Int) - 1 ≤ (N : Int) + 1) :=
  ⟨wrap_in _ (by omega) (by omega), by rw [wrap_in _ (by omega) (by omega)]; omega, by rw [wrap_in _ (by omega) (by omega)]; omega, fun h => ⟨decide_eq_true (by omega), by omega⟩, fun h => ⟨decide_eq_false (by omega), by omega⟩⟩
theorem sp_meas {k N : Nat} (h : k < N + 3) : N + 3 - (intOf (Value.int .i64 (((k + 1 : Nat) : Int) - 1)) + 1).toNat < N + 3 - (intOf (Value.int .i64 ((k : Int) - 1)) + 1).toNat := by simp only [intOf]; omega
set_option maxRecDepth 100000 in
set_option maxHeartbeats 8000000 in
theorem SeekBytes_any (a0 : Option Addr) (cap : Nat) (ls : List (List Int)) (a1 : Option Addr) (cap1 : Nat) (la : List Int) (pl ln cl fr tr mo : Int) (w : World) (h : IsNN w a0 ls) (hs : bulkL ls + ls.length ≤ 1048576) (hB : IsN w a1 cap1 la) (_hc : cap1 ≤ 1048576) (_hk : AskW pl ln cl fr tr mo) (hW : Wt w) :
    Calls Tryz.prog 4 #[.slice a0 ls.length cap, .slice a1 la.length cap1, .agg #[.int .i64 pl, .int .i64 ln, .int .i64 cl, .int .i64 fr, .int .i64 tr, .int .i64 mo]] w fun y w' => y = .returned (.bool true) ∧ Below w.heap.size w w' := by
  have hfl : ls.flatten.length ≤ 1048576 := by rw [show ls.flatten.length = bulkL ls by simp [bulkL, List.length_flatten]]; omega
  have hll : ls.length ≤ 1048576 := by omega
  have hal : la.length ≤ 140737488351232 := hB.1.2.1
  have HW := hide fun (X : World) (hx : Below w.heap.size w X) => hW.below hx
  have HP := hide fun (X : World) (hx : Below w.heap.size w X) => h.below hx (Nat.le_refl _)
  have HQ := hide fun (X : World) (hx : Below w.heap.size w X) => hB.below hx (Nat.le_refl _)
  have HLS := hide (And.intro hfl (And.intro hll hal))
  have b0 := (Below.refl w.heap.size w).alloc (Nat.le_refl _) (.cells #[.int .i64 pl, .int .i64 ln, .int .i64 cl, .int .i64 fr, .int .i64 tr, .int .i64 mo] 28)
  have g0 := push_get w (.cells #[.int .i64 pl, .int .i64 ln, .int .i64 cl, .int .i64 fr, .int .i64 tr, .int .i64 mo] 28)
  clear h hs hW hfl hll hal hB _hc _hk
  go_enter Tryz.func4, Tryz.ntmps4
  go_upto_region 1 with fail
  generalize w.alloc (.cells #[.int .i64 pl, .int .i64 ln, .int .i64 cl, .int .i64 fr, .int .i64 tr, .int .i64 mo] 28) = w0 at *
  obtain ⟨gA, hgA⟩ : ∃ gA, gA = w.heap.size := ⟨_, rfl⟩
  rw [← hgA] at g0
  rw [← hgA]
  have HSA : Hid (∀ X, Below w0.heap.size w0 X → X.cell? ⟨gA, 0, none⟩ = some (.int .i64 pl) ∧ X.cell? ⟨gA, 1, none⟩ = some (.int .i64 ln) ∧ X.cell? ⟨gA, 2, none⟩ = some (.int .i64 cl) ∧ X.cell? ⟨gA, 3, none⟩ = some (.int .i64 fr) ∧ X.cell? ⟨gA, 4, none⟩ = some (.int .i64 tr) ∧ X.cell? ⟨gA, 5, none⟩ = some (.int .i64 mo)) := hide fun X hx => by
    obtain ⟨c0, c1, c2, c3, c4, c5, _⟩ := cells6 (bk9_on g0 hx)
    exact ⟨c0, c1, c2, c3, c4, c5⟩
  have HGA := hide hgA
  clear g0 hgA
  go_wp2_with fail
  refine (awake10_at w0 (unhide HW w0 b0)).mono ?_
  rintro y w1 ⟨rfl, x1⟩
  dsimp only
  have X1 := b0.trans (x1.mono b0.size)
  have HJ := hide (Joined10_at a0 cap ls w1 (unhide HP w1 X1) (by have := unhide HLS; omega) (by have := unhide HLS; omega))
  go_wp2_with fail
  refine (unhide HJ).mono ?_
  rintro y w2 ⟨v, rfl, ho, x2⟩
  dsimp only
  have X2 := X1.trans (x2.mono X1.size)
  have Y2 := x1.trans (x2.mono x1.size)
  have hyb : ∀ x ∈ ls.flatten, 0 ≤ x ∧ x ≤ 255 := by
    intro x hx
    obtain ⟨l, hl, hxl⟩ := List.mem_flatten.1 hx
    obtain ⟨k, hk, rfl⟩ := List.mem_iff_getElem.1 hl
    rcases unhide HP w (Below.refl _ _) with hnil | ⟨ga, off, _, _, hrow⟩
    · rw [hnil] at hk; exact absurd hk (Nat.not_lt_zero _)
    · obtain ⟨A, C, _, hN⟩ := hrow k hk
      have e : ls.getD k [] = ls[k] := by rw [List.getD_eq_getElem?_getD, List.getElem?_eq_getElem hk]; rfl
      rw [e] at hN
      exact hN.1.2.2.2 x hxl
  obtain ⟨ba, bc, rfl, hN2⟩ := own_isNS ho hyb (by have := unhide HLS; omega)
  clear HJ ho x1 x2
  obtain ⟨T, hT⟩ : ∃ T, T = ls.flatten := ⟨_, rfl⟩
  obtain ⟨N, hN⟩ : ∃ N, N = T.length := ⟨_, rfl⟩
  rw [← hT] at hN2 hyb
  rw [← hT, ← hN]
  have hN20 : T.length ≤ 1048576 := by have := unhide HLS; rw [hT]; exact this.1
  have HLa := hide (Large10_at ba N bc w2 (by omega))
  have HI2 := hide hN2
  have HTT := hide (And.intro hT (And.intro hN hN20))
  obtain ⟨M, hM⟩ : ∃ M, M = la.length := ⟨_, rfl⟩
  have HMM := hide hM
  rw [← hM]
  clear hN2 hyb hT hN hN20 X1 hM
  go_wp2_with fail
  refine (unhide HLa).mono ?_
  rintro y w3 ⟨rfl, x3⟩
  dsimp only
  have X3 := X2.trans (x3.mono X2.size)
  have Y3 := Y2.trans (x3.mono Y2.size)
  by_cases hlg : 400 < N
  · have d1 : decide (400 < N) = true := decide_eq_true hlg
    rw [d1]
    go_wp2_with fail
    go_ret
    exact ⟨rfl, X3⟩
  · have d1 : decide (400 < N) = false := decide_eq_false hlg
    rw [d1]
    by_cases hlm : 400 < M
    · have d2 : decide ((400 : Int) < (M : Int)) = true := decide_eq_true (by omega)
      have d3 : (400 : Int) < (M : Int) := by omega
      go_wp2_with fail
      go_ret
      exact ⟨rfl, X3⟩
    · have d2 : decide ((400 : Int) < (M : Int)) = false := decide_eq_false (by omega)
      have d3 : ¬ (400 : Int) < (M : Int) := by omega
      have HRo := hide (Rope10_at a0 cap ls w3 (unhide HP w3 X3) (by have := unhide HLS; omega) (by have := unhide HLS; omega) (unhide HW w3 X3))
      have HNM := hide (And.intro hlg hlm)
      clear HLa d1 hlg hlm X2 Y2
      go_wp2_with fail
      refine (unhide HRo).mono ?_
      rintro y w4 ⟨g, o, rfl, hr, ht, x4⟩
      dsimp only
      have X4 := X3.trans (x4.mono X3.size)
      have Y4 := Y3.trans (x4.mono Y3.size)
      have hI4 := ((unhide HI2).below x3 (Nat.le_refl _)).below x4 (Nat.le_refl _)
      clear HRo x3 x4 HI2 X3 Y3
      obtain ⟨p1, c1, W1, v2, W2, p3, c3, W3, p4, c4, W4, r1, r2, r3, r4, hNN, XW⟩ := great_of w4 a0 cap ls a1 cap1 la (unhide HP w4 X4) (unhide HQ w4 X4) (by have := unhide HNM; rw [← unhide HMM]; omega) (by have := unhide HLS; omega)
      rw [← unhide HMM] at r1 r2 r3 r4
      have X5 := X4.trans (XW.mono X4.size)
      have Y5 := Y4.trans (XW.mono Y4.size)
      have hgl : ([la] ++ ls ++ [la]).flatten.length ≤ 268435456 := by
        have h1 := unhide HLS
        have h2 := unhide HNM
        have h3 := unhide HMM
        simp only [List.flatten_append, List.flatten_cons, List.flatten_nil, List.append_nil, List.length_append]
        omega
      have hRG := Rope10_at p4 c4 ([la] ++ ls ++ [la]) W4 hNN hgl (by have := unhide HLS; simp; omega) (unhide HW W4 X5)
      rw [show ([la] ++ ls ++ [la]).length = ls.length + 2 by simp] at hRG
      have HRG := hide hRG
      have R1 := hide r1
      have R2 := hide r2
      have R3 := hide r3
      have R4 := hide r4
      have HR4 := hide (hr.on XW)
      have HI5 := hide (hI4.below XW (Nat.le_refl _))
      have HTO := hide ht
      clear r1 r2 r3 r4 hNN XW hgl hRG hr hI4 ht X4 Y4
      go_wp2_with (first | (at_builtin; refine wpList_append_known rfl _ _ 30 30 rfl _ _ rfl rfl _ _ (unhide R1) ?_; clear R1) | (at_builtin; refine wpList_append_known rfl _ _ 22 22 rfl _ _ rfl rfl _ _ (unhide R2) ?_; clear R2) | (at_builtin; refine wpList_append_known rfl _ _ 30 30 rfl _ _ rfl rfl _ _ (unhide R3) ?_; clear R3) | (at_builtin; refine wpList_append_known rfl _ _ 22 22 rfl _ _ rfl rfl _ _ (unhide R4) ?_; clear R4))
      refine (unhide HRG).mono ?_
      rintro y w6 ⟨g2, o2, rfl, hr2, ht2, x6⟩
      dsimp only
      have X6 := X5.trans (x6.mono X5.size)
      have Y6 := Y5.trans (x6.mono Y5.size)
      have hfl2 : txtO o2 = la ++ T ++ la := by rw [ht2, (unhide HTT).1]; simp
      have hl2 : (txtO o2).length ≤ 268435456 := by
        have h1 := (unhide HTT).2.2
        have h2 := unhide HNM
        have h3 := unhide HMM
        rw [hfl2, List.length_append, List.length_append]
        omega
      have hSp := SplitR9_at g2 o2 M w6 hr2 (by rw [unhide HMM, hfl2, List.length_append, List.length_append]; omega) hl2 (unhide HW w6 X6)
      have HSp := hide hSp
      have HF2 := hide (And.intro hfl2 hl2)
      have HR6 := hide ((unhide HR4).on x6)
      have HI6 := hide ((unhide HI5).below x6 (Nat.le_refl _))
      clear HRG hr2 ht2 x6 hfl2 hl2 hSp HR4 HI5 X5 Y5
      go_wp2_with fail
      refine (unhide HSp).mono ?_
      rintro y w7 ⟨ga, gb, oa, ob, rfl, _, hrb, _, htb, _, x7⟩
      dsimp only
      have X7 := X6.trans (x7.mono X6.size)
      have Y7 := Y6.trans (x7.mono Y6.size)
      have htb' : txtO ob = T ++ la := by
        have h1 := (unhide HF2).1
        rw [htb, h1, unhide HMM, List.append_assoc, List.drop_left]
      have hlb : (txtO ob).length ≤ 268435456 := by
        have h1 := (unhide HTT).2.2
        have h2 := unhide HNM
        have h3 := unhide HMM
        rw [htb', List.length_append]
        omega
      have HSq := hide (SplitR9_at gb ob N w7 hrb (by rw [htb', List.length_append, (unhide HTT).2.1]; omega) hlb (unhide HW w7 X7))
      have HR7 := hide ((unhide HR6).on x7)
      have HI7 := hide ((unhide HI6).below x7 (Nat.le_refl _))
      have HTB := hide htb'
      clear HSp hrb htb x7 htb' hlb HR6 HI6 HF2 X6 Y6
      go_wp2_with fail
      refine (unhide HSq).mono ?_
      rintro y w8 ⟨q, gd, oq, od, rfl, hrq, _, htq, _, _, x8⟩
      dsimp only
      have X8 := X7.trans (x8.mono X7.size)
      have Y8 := Y7.trans (x8.mono Y7.size)
      have htq' : txtO oq = T := by rw [htq, unhide HTB, (unhide HTT).2.1, List.take_left]
      have hto : txtO o = T := by rw [unhide HTO, (unhide HTT).1]
      have HIB := hide fun (X : World) (hx : Below w8.heap.size w8 X) => ((unhide HI7).below x8 (Nat.le_refl _)).below hx (Nat.le_refl _)
      have HSW : Hid (∀ X, Below w8.heap.size w8 X → X.cell? ⟨gA, 0, none⟩ = some (.int .i64 pl) ∧ X.cell? ⟨gA, 1, none⟩ = some (.int .i64 ln) ∧ X.cell? ⟨gA, 2, none⟩ = some (.int .i64 cl) ∧ X.cell? ⟨gA, 3, none⟩ = some (.int .i64 fr) ∧ X.cell? ⟨gA, 4, none⟩ = some (.int .i64 tr) ∧ X.cell? ⟨gA, 5, none⟩ = some (.int .i64 mo)) := hide fun X hx => unhide HSA X (Y8.trans (hx.mono Y8.size))
      have HBF : Hid (∀ p, ∃ P R C D i0 i1 i2 i3 i4 i5 i6 e, ByF g q N T w8 fr tr mo ln p P R C D i0 i1 i2 i3 i4 i5 i6 e) := hide fun p => by
        have := byF_of g q o oq T w8 fr tr mo ln p ((unhide HR7).on x8) hrq hto htq' (unhide HTT).2.2 (unhide HW w8 X8)
        rw [← (unhide HTT).2.1] at this
        exact this
      have HX8 := hide X8
      clear HSq hrq htq x8 htq' hto HR7 HI7 HTB X7 Y7 HSA X8 Y8 HTO
      go_wp2_with fail
      go_loopw [13, 14, 15, 16, 17, 18, 19, 20, 21, 22, 23, 24, 25] (fun v13 v14 v15 v16 v17 v18 v19 v20 v21 v22 v23 v24 v25 wx => (∃ z, v14 = z) ∧ (∃ z, v15 = z) ∧ (∃ z, v16 = z) ∧ (∃ z, v17 = z) ∧ (∃ z, v18 = z) ∧ (∃ z, v19 = z) ∧ (∃ z, v20 = z) ∧ (∃ z, v21 = z) ∧ (∃ z, v22 = z) ∧ (∃ z, v23 = z) ∧ (∃ z, v24 = z) ∧ (∃ z, v25 = z) ∧ ∃ (k : Nat), v13 = .int .i64 ((k : Int) - 1) ∧ k ≤ N + 3 ∧ Hid (Below w8.heap.size w8 wx)) (fun v13 _ _ _ _ _ _ _ _ _ _ _ _ _ => N + 3 - (intOf v13 + 1).toNat)
      case atStart => exact ⟨⟨_, rfl⟩, ⟨_, rfl⟩, ⟨_, rfl⟩, ⟨_, rfl⟩, ⟨_, rfl⟩, ⟨_, rfl⟩, ⟨_, rfl⟩, ⟨_, rfl⟩, ⟨_, rfl⟩, ⟨_, rfl⟩, ⟨_, rfl⟩, ⟨_, rfl⟩, 0, rfl, Nat.zero_le _, hide (Below.refl _ _)⟩
      case round =>
        obtain ⟨⟨z14, rfl⟩, ⟨z15, rfl⟩, ⟨z16, rfl⟩, ⟨z17, rfl⟩, ⟨z18, rfl⟩, ⟨z19, rfl⟩, ⟨z20, rfl⟩, ⟨z21, rfl⟩, ⟨z22, rfl⟩, ⟨z23, rfl⟩, ⟨z24, rfl⟩, ⟨z25, rfl⟩, k, rfl, hk, HD⟩ := hrel
        obtain ⟨s1, s2, s2', s3, s4⟩ := sp_arith (Nat.not_lt.1 (unhide HNM).1) hk
        by_cases c : k < N + 3
        · obtain ⟨d4, d5⟩ := s3 c
          obtain ⟨P, R, C, D, i0, i1, i2, i3, i4, i5, i6, e, hb⟩ := unhide HBF ((k : Int) - 1)
          have HB := hide hb
          clear s3 s4 hb hk
          generalize hpp : (k : Int) - 1 = p at *
          have HPP := hide hpp
          clear hpp
          go_upto_region 19 with fail
          have E310 : Below wr.heap.size wr wr.drew := (Below.refl _ _).drew
          have E31 := (unhide HD).trans (E310.mono (unhide HD).size)
          obtain ⟨a31, c31, m31, r31, i31, b31, l31, _⟩ := copyN10 (wr.drew) ba bc T (unhide HIB _ E31) (unhide HTT).2.2
          rw [← (unhide HTT).2.1] at r31
          have R31 := hide r31
          have F31 := E31.trans (l31.mono E31.size)
          have HC31 := hide ((unhide HB).rt _ _ _ F31 i31.1)
          clear r31 i31 E310
          refine regionL (S := fun w' => w'.cell? ⟨gA, 0, none⟩ = some (.int .i64 pl) ∧ w'.cell? ⟨gA, 1, none⟩ = some (.int .i64 ln) ∧ w'.cell? ⟨gA, 2, none⟩ = some (.int .i64 cl) ∧ w'.cell? ⟨gA, 3, none⟩ = some (.int .i64 fr) ∧ w'.cell? ⟨gA, 4, none⟩ = some (.int .i64 tr) ∧ w'.cell? ⟨gA, 5, none⟩ = some (.int .i64 mo)) (fun _ => false) (by kernel_rfl) ?_
          generalize wr.drew = z31 at *
          refine anyL_take (i := 1) (v := ?vsy190) rfl (by kernel_rfl) (by kernel_rfl) (by kernel_rfl) (by kernel_rfl) (fun _ _ _ h => h) (Or.inl ⟨by rfl, ?hsy190⟩) (unhide HSW _ E31) ?_
          case hsy190 => (intro w hSw; (try dsimp only at hSw); go_simp) <;> with_reducible rfl
          simp only [Act.put, List.getElem_toArray, List.getElem_cons_zero, List.getElem_cons_succ, List.setIfInBounds_toArray, List.set_cons_zero, List.set_cons_succ]
          refine anyL_take (i := 3) (v := ?vsy191) rfl (by kernel_rfl) (by kernel_rfl) (by kernel_rfl) (by kernel_rfl) (fun _ _ _ h => h) (Or.inl ⟨by rfl, ?hsy191⟩) (unhide HSW _ E31) ?_
          case hsy191 => (intro w hSw; (try dsimp only at hSw); go_simp) <;> with_reducible rfl
          simp only [Act.put, List.getElem_toArray, List.getElem_cons_zero, List.getElem_cons_succ, List.setIfInBounds_toArray, List.set_cons_zero, List.set_cons_succ]
          refine anyL_take (i := 4) (v := ?vsy192) rfl (by kernel_rfl) (by kernel_rfl) (by kernel_rfl) (by kernel_rfl) (fun _ _ _ h => h) (Or.inl ⟨by rfl, ?hsy192⟩) (unhide HSW _ E31) ?_
          case hsy192 => (intro w hSw; (try dsimp only at hSw); go_simp) <;> with_reducible rfl
          simp only [Act.put, List.getElem_toArray, List.getElem_cons_zero, List.getElem_cons_succ, List.setIfInBounds_toArray, List.set_cons_zero, List.set_cons_succ]
          refine anyL_take (i := 5) (v := ?vsy193) rfl (by kernel_rfl) (by kernel_rfl) (by kernel_rfl) (by kernel_rfl) (fun _ _ _ h => h) (Or.inl ⟨by rfl, ?hsy193⟩) (unhide HSW _ E31) ?_
          case hsy193 => (intro w hSw; (try dsimp only at hSw); go_simp) <;> with_reducible rfl
          simp only [Act.put, List.getElem_toArray, List.getElem_cons_zero, List.getElem_cons_succ, List.setIfInBounds_toArray, List.set_cons_zero, List.set_cons_succ]
          refine anyL_take (i := 6) (v := ?vsy194) rfl (by kernel_rfl) (by kernel_rfl) (by kernel_rfl) (by kernel_rfl) (fun _ _ _ h => h) (Or.inl ⟨by rfl, ?hsy194⟩) (unhide HSW _ E31) ?_
          case hsy194 => (intro w hSw; (try dsimp only at hSw); go_simp) <;> with_reducible rfl
          simp only [Act.put, List.getElem_toArray, List.getElem_cons_zero, List.getElem_cons_succ, List.setIfInBounds_toArray, List.set_cons_zero, List.set_cons_succ]
          refine anyL_take (i := 7) (v := ?vsy195) rfl (by kernel_rfl) (by kernel_rfl) (by kernel_rfl) (by kernel_rfl) (fun _ _ _ h => h) (Or.inl ⟨by rfl, ?hsy195⟩) (unhide HSW _ E31) ?_
          case hsy195 => (intro w hSw; (try dsimp only at hSw); go_simp) <;> with_reducible rfl
          simp only [Act.put, List.getElem_toArray, List.getElem_cons_zero, List.getElem_cons_succ, List.setIfInBounds_toArray, List.set_cons_zero, List.set_cons_succ]
          refine anyL_take (i := 8) (v := ?vsy196) rfl (by kernel_rfl) (by kernel_rfl) (by kernel_rfl) (by kernel_rfl) (fun _ _ _ h => h) (Or.inl ⟨by rfl, ?hsy196⟩) (unhide HSW _ E31) ?_
          case hsy196 => (intro w hSw; (try dsimp only at hSw); go_simp) <;> with_reducible rfl
          simp only [Act.put, List.getElem_toArray, List.getElem_cons_zero, List.getElem_cons_succ, List.setIfInBounds_toArray, List.set_cons_zero, List.set_cons_succ]
          refine anyL_take (i := 9) (v := ?vsy197) rfl (by kernel_rfl) (by kernel_rfl) (by kernel_rfl) (by kernel_rfl) (fun _ _ _ h => h) (Or.inl ⟨by rfl, ?hsy197⟩) (unhide HSW _ E31) ?_
          case hsy197 => (intro w hSw; (try dsimp only at hSw); go_simp) <;> with_reducible rfl
          simp only [Act.put, List.getElem_toArray, List.getElem_cons_zero, List.getElem_cons_succ, List.setIfInBounds_toArray, List.set_cons_zero, List.set_cons_succ]
          refine anyL_ready (rs := [0]) (by kernel_rfl) (by simp) ?_
          refine AllL.cons rfl (fun K hK => ?_) AllL.nil
          go_simp
          refine unhide hK _ _ (fun _ => unhide HSW _ (E31.trans (b31.mono E31.size))) ?_
          clear hK K
          refine anyL_ready (rs := [2]) (by kernel_rfl) (by simp) ?_
          refine AllL.cons rfl (fun K hK => ?_) AllL.nil
          refine step_append_knownS rfl _ _ 30 30 rfl _ _ rfl rfl _ _ (unhide R31) ?_
          go_simp
          refine unhide hK _ _ (fun _ => unhide HSW _ F31) ?_
          clear hK K R31
          refine anyL_ready (rs := [10]) (by kernel_rfl) (by simp) ?_
          refine AllL.cons rfl (fun K hK => ?_) AllL.nil
          go_simp
          refine (unhide HC31).mono ?_
          rintro e n31 ⟨rfl, x31⟩
          have G31 := F31.trans (x31.mono F31.size)
          refine unhide hK _ _ (fun _ => unhide HSW _ G31) ?_
          clear hK K x31
          refine anyL_take (i := 11) (v := ?vsy198) rfl (by kernel_rfl) (by kernel_rfl) (by kernel_rfl) (by kernel_rfl) (fun _ _ _ h => h) (Or.inl ⟨by rfl, ?hsy198⟩) (unhide HSW _ G31) ?_
          case hsy198 => (intro w hSw; (try dsimp only at hSw); go_simp) <;> with_reducible rfl
          simp only [Act.put, List.getElem_toArray, List.getElem_cons_zero, List.getElem_cons_succ, List.setIfInBounds_toArray, List.set_cons_zero, List.set_cons_succ]
          refine anyL_take (i := 12) (v := ?vsy199) rfl (by kernel_rfl) (by kernel_rfl) (by kernel_rfl) (by kernel_rfl) (fun _ _ _ h => h) (Or.inl ⟨by rfl, ?hsy199⟩) (unhide HSW _ G31) ?_
          case hsy199 => (intro w hSw; (try dsimp only at hSw); go_simp) <;> with_reducible rfl
          simp only [Act.put, List.getElem_toArray, List.getElem_cons_zero, List.getElem_cons_succ, List.setIfInBounds_toArray, List.set_cons_zero, List.set_cons_succ]
          refine anyL_take (i := 13) (v := ?vsy1910) rfl (by kernel_rfl) (by kernel_rfl) (by kernel_rfl) (by kernel_rfl) (fun _ _ _ h => h) (Or.inl ⟨by rfl, ?hsy1910⟩) (unhide HSW _ G31) ?_
          case hsy1910 => (intro w hSw; (try dsimp only at hSw); go_simp) <;> with_reducible rfl
          simp only [Act.put, List.getElem_toArray, List.getElem_cons_zero, List.getElem_cons_succ, List.setIfInBounds_toArray, List.set_cons_zero, List.set_cons_succ]
          refine anyL_take (i := 14) (v := ?vsy1911) rfl (by kernel_rfl) (by kernel_rfl) (by kernel_rfl) (by kernel_rfl) (fun _ _ _ h => h) (Or.inl ⟨by rfl, ?hsy1911⟩) (unhide HSW _ G31) ?_
          case hsy1911 => (intro w hSw; (try dsimp only at hSw); go_simp) <;> with_reducible rfl
          simp only [Act.put, List.getElem_toArray, List.getElem_cons_zero, List.getElem_cons_succ, List.setIfInBounds_toArray, List.set_cons_zero, List.set_cons_succ]
          refine anyL_take (i := 15) (v := ?vsy1912) rfl (by kernel_rfl) (by kernel_rfl) (by kernel_rfl) (by kernel_rfl) (fun _ _ _ h => h) (Or.inl ⟨by rfl, ?hsy1912⟩) (unhide HSW _ G31) ?_
          case hsy1912 => (intro w hSw; (try dsimp only at hSw); go_simp) <;> with_reducible rfl
          simp only [Act.put, List.getElem_toArray, List.getElem_cons_zero, List.getElem_cons_succ, List.setIfInBounds_toArray, List.set_cons_zero, List.set_cons_succ]
          refine anyL_done (by kernel_rfl) ?_ _
          obtain ⟨q0, q1, q2, q3, q4, q5⟩ := unhide HSW _ G31
          go_wp2_with fail
          refine ((unhide HB).s1 n31 G31).mono ?_
          rintro y v1 ⟨rfl, y1⟩
          dsimp only
          have F1 := G31.trans (y1.mono G31.size)
          clear y1 G31 q0 q1 q2 q3 q4 q5
          obtain ⟨q0, q1, q2, q3, q4, q5⟩ := unhide HSW _ F1
          go_wp2_with fail
          refine ((unhide HB).s2 v1 F1).mono ?_
          rintro y v2' ⟨rfl, y2⟩
          dsimp only
          have F2 := F1.trans (y2.mono F1.size)
          clear y2 F1 q0 q1 q2 q3 q4 q5
          obtain ⟨a5, c5, m5, r5, i5', _, l5, _⟩ := copyN10 v2' ba bc T (unhide HIB _ F2) (unhide HTT).2.2
          rw [← (unhide HTT).2.1] at r5
          have R5 := hide r5
          have F5 := F2.trans (l5.mono F2.size)
          have HL5 := hide ((unhide HB).lw m5 a5 c5 F5 i5'.1)
          clear r5 i5' l5 F2
          go_wp2_with (at_builtin; refine wpList_append_known rfl _ _ 30 30 rfl _ _ rfl rfl _ _ (unhide R5) ?_)
          refine (unhide HL5).mono ?_
          rintro y v3 ⟨rfl, y3⟩
          dsimp only
          have F3 := F5.trans (y3.mono F5.size)
          clear y3 F5 HL5 R5
          go_upto_region 23 with fail
          have x4 := (Below.refl v3.heap.size v3).alloc (Nat.le_refl _) (.cells #[.int .i64 i0, .int .i64 i1, .int .i64 i2, .int .i64 i3, .int .i64 i4, .int .i64 i5, .int .i64 i6] 44)
          have K4 := Cls.new v3 44 #[.int .i64 i0, .int .i64 i1, .int .i64 i2, .int .i64 i3, .int .i64 i4, .int .i64 i5, .int .i64 i6]
          generalize v3.alloc (.cells #[.int .i64 i0, .int .i64 i1, .int .i64 i2, .int .i64 i3, .int .i64 i4, .int .i64 i5, .int .i64 i6] 44) = v4 at *
          have F4 := F3.trans (x4.mono F3.size)
          clear x4 F3
          generalize v3.heap.size = g20 at *
          go_wp2_with fail
          refine ((unhide HB).w1 v4 F4).mono ?_
          rintro y v5 ⟨rfl, y5⟩
          dsimp only
          have F5 := F4.trans (y5.mono F4.size)
          have K5 := K4.below y5 K4.lt
          clear y5 F4 K4
          go_upto_region 24 with fail
          have x6 := (Below.refl v5.heap.size v5).alloc (Nat.le_refl _) (.cells #[.int .i64 i0, .int .i64 i1, .int .i64 i2, .int .i64 i3, .int .i64 i4, .int .i64 i5, .int .i64 i6] 44)
          have M6 := Cls.new v5 44 #[.int .i64 i0, .int .i64 i1, .int .i64 i2, .int .i64 i3, .int .i64 i4, .int .i64 i5, .int .i64 i6]
          generalize v5.alloc (.cells #[.int .i64 i0, .int .i64 i1, .int .i64 i2, .int .i64 i3, .int .i64 i4, .int .i64 i5, .int .i64 i6] 44) = v6 at *
          have F6 := F5.trans (x6.mono F5.size)
          have K6 := K5.below x6 K5.lt
          clear x6 F5 K5
          generalize v5.heap.size = g22 at *
          go_wp2_with fail
          refine ((unhide HB).w2 v6 F6).mono ?_
          rintro y v7 ⟨rfl, y7⟩
          dsimp only
          have F7 := F6.trans (y7.mono F6.size)
          have K7 := K6.below y7 K6.lt
          have M7 := M6.below y7 M6.lt
          clear y7 F6 K6 M6
          go_upto_region 25 with fail
          have x9 := (Below.refl v7.heap.size v7).alloc (Nat.le_refl _) (.cells #[.int .i64 i0, .int .i64 i1, .int .i64 i2, .int .i64 i3, .int .i64 i4, .int .i64 i5, .int .i64 i6] 44)
          have L9 := Cls.new v7 44 #[.int .i64 i0, .int .i64 i1, .int .i64 i2, .int .i64 i3, .int .i64 i4, .int .i64 i5, .int .i64 i6]
          generalize v7.alloc (.cells #[.int .i64 i0, .int .i64 i1, .int .i64 i2, .int .i64 i3, .int .i64 i4, .int .i64 i5, .int .i64 i6] 44) = v9 at *
          have F9 := F7.trans (x9.mono F7.size)
          have K9 := K7.below x9 K7.lt
          have M9 := M7.below x9 M7.lt
          clear x9 F7 K7 M7
          generalize v7.heap.size = g24 at *
          obtain ⟨j0, j1, j2, j3, j4, j5, j6⟩ := cls7 K9
          obtain ⟨n0, n1, n2, n3, n4, n5, n6⟩ := cls7 M9
          obtain ⟨o0, o1, o2', o3, o4, o5, o6⟩ := cls7 L9
          clear K9 M9 L9
          go_upto_region 27 with fail
          have E320 : Below v9.heap.size v9 v9.drew := (Below.refl _ _).drew
          have E32 := F9.trans (E320.mono F9.size)
          obtain ⟨a32, c32, m32, r32, i32, b32, l32, _⟩ := copyN10 (v9.drew) ba bc T (unhide HIB _ E32) (unhide HTT).2.2
          rw [← (unhide HTT).2.1] at r32
          have R32 := hide r32
          have F32 := E32.trans (l32.mono E32.size)
          have HC32 := hide ((unhide HB).la _ _ _ F32 i32.1)
          clear r32 i32 E320
          refine regionL (S := fun w' => w'.cell? ⟨gA, 0, none⟩ = some (.int .i64 pl) ∧ w'.cell? ⟨gA, 1, none⟩ = some (.int .i64 ln) ∧ w'.cell? ⟨gA, 2, none⟩ = some (.int .i64 cl) ∧ w'.cell? ⟨gA, 3, none⟩ = some (.int .i64 fr) ∧ w'.cell? ⟨gA, 4, none⟩ = some (.int .i64 tr) ∧ w'.cell? ⟨gA, 5, none⟩ = some (.int .i64 mo)) (fun _ => false) (by kernel_rfl) ?_
          generalize v9.drew = z32 at *
          refine anyL_take (i := 1) (v := ?vsy2713) rfl (by kernel_rfl) (by kernel_rfl) (by kernel_rfl) (by kernel_rfl) (fun _ _ _ h => h) (Or.inl ⟨by rfl, ?hsy2713⟩) (unhide HSW _ E32) ?_
          case hsy2713 => (intro w hSw; (try dsimp only at hSw); go_simp) <;> with_reducible rfl
          simp only [Act.put, List.getElem_toArray, List.getElem_cons_zero, List.getElem_cons_succ, List.setIfInBounds_toArray, List.set_cons_zero, List.set_cons_succ]
          refine anyL_take (i := 3) (v := ?vsy2714) rfl (by kernel_rfl) (by kernel_rfl) (by kernel_rfl) (by kernel_rfl) (fun _ _ _ h => h) (Or.inl ⟨by rfl, ?hsy2714⟩) (unhide HSW _ E32) ?_
          case hsy2714 => (intro w hSw; (try dsimp only at hSw); go_simp) <;> with_reducible rfl
          simp only [Act.put, List.getElem_toArray, List.getElem_cons_zero, List.getElem_cons_succ, List.setIfInBounds_toArray, List.set_cons_zero, List.set_cons_succ]
          refine anyL_take (i := 4) (v := ?vsy2715) rfl (by kernel_rfl) (by kernel_rfl) (by kernel_rfl) (by kernel_rfl) (fun _ _ _ h => h) (Or.inl ⟨by rfl, ?hsy2715⟩) (unhide HSW _ E32) ?_
          case hsy2715 => (intro w hSw; (try dsimp only at hSw); go_simp) <;> with_reducible rfl
          simp only [Act.put, List.getElem_toArray, List.getElem_cons_zero, List.getElem_cons_succ, List.setIfInBounds_toArray, List.set_cons_zero, List.set_cons_succ]
          refine anyL_take (i := 5) (v := ?vsy2716) rfl (by kernel_rfl) (by kernel_rfl) (by kernel_rfl) (by kernel_rfl) (fun _ _ _ h => h) (Or.inl ⟨by rfl, ?hsy2716⟩) (unhide HSW _ E32) ?_
          case hsy2716 => (intro w hSw; (try dsimp only at hSw); go_simp) <;> with_reducible rfl
          simp only [Act.put, List.getElem_toArray, List.getElem_cons_zero, List.getElem_cons_succ, List.setIfInBounds_toArray, List.set_cons_zero, List.set_cons_succ]
          refine anyL_take (i := 6) (v := ?vsy2717) rfl (by kernel_rfl) (by kernel_rfl) (by kernel_rfl) (by kernel_rfl) (fun _ _ _ h => h) (Or.inl ⟨by rfl, ?hsy2717⟩) (unhide HSW _ E32) ?_
          case hsy2717 => (intro w hSw; (try dsimp only at hSw); go_simp) <;> with_reducible rfl
          simp only [Act.put, List.getElem_toArray, List.getElem_cons_zero, List.getElem_cons_succ, List.setIfInBounds_toArray, List.set_cons_zero, List.set_cons_succ]
          refine anyL_take (i := 7) (v := ?vsy2718) rfl (by kernel_rfl) (by kernel_rfl) (by kernel_rfl) (by kernel_rfl) (fun _ _ _ h => h) (Or.inl ⟨by rfl, ?hsy2718⟩) (unhide HSW _ E32) ?_
          case hsy2718 => (intro w hSw; (try dsimp only at hSw); go_simp) <;> with_reducible rfl
          simp only [Act.put, List.getElem_toArray, List.getElem_cons_zero, List.getElem_cons_succ, List.setIfInBounds_toArray, List.set_cons_zero, List.set_cons_succ]
          refine anyL_take (i := 8) (v := ?vsy2719) rfl (by kernel_rfl) (by kernel_rfl) (by kernel_rfl) (by kernel_rfl) (fun _ _ _ h => h) (Or.inl ⟨by rfl, ?hsy2719⟩) (unhide HSW _ E32) ?_
          case hsy2719 => (intro w hSw; (try dsimp only at hSw); go_simp) <;> with_reducible rfl
          simp only [Act.put, List.getElem_toArray, List.getElem_cons_zero, List.getElem_cons_succ, List.setIfInBounds_toArray, List.set_cons_zero, List.set_cons_succ]
          refine anyL_take (i := 9) (v := ?vsy2720) rfl (by kernel_rfl) (by kernel_rfl) (by kernel_rfl) (by kernel_rfl) (fun _ _ _ h => h) (Or.inl ⟨by rfl, ?hsy2720⟩) (unhide HSW _ E32) ?_
          case hsy2720 => (intro w hSw; (try dsimp only at hSw); go_simp) <;> with_reducible rfl
          simp only [Act.put, List.getElem_toArray, List.getElem_cons_zero, List.getElem_cons_succ, List.setIfInBounds_toArray, List.set_cons_zero, List.set_cons_succ]
          refine anyL_take (i := 10) (v := ?vsy2721) rfl (by kernel_rfl) (by kernel_rfl) (by kernel_rfl) (by kernel_rfl) (fun _ _ _ h => h) (Or.inl ⟨by rfl, ?hsy2721⟩) (unhide HSW _ E32) ?_
          case hsy2721 => (intro w hSw; (try dsimp only at hSw); go_simp) <;> with_reducible rfl
          simp only [Act.put, List.getElem_toArray, List.getElem_cons_zero, List.getElem_cons_succ, List.setIfInBounds_toArray, List.set_cons_zero, List.set_cons_succ]
          refine anyL_take (i := 11) (v := ?vsy2722) rfl (by kernel_rfl) (by kernel_rfl) (by kernel_rfl) (by kernel_rfl) (fun _ _ _ h => h) (Or.inl ⟨by rfl, ?hsy2722⟩) (unhide HSW _ E32) ?_
          case hsy2722 => (intro w hSw; (try dsimp only at hSw); go_simp) <;> with_reducible rfl
          simp only [Act.put, List.getElem_toArray, List.getElem_cons_zero, List.getElem_cons_succ, List.setIfInBounds_toArray, List.set_cons_zero, List.set_cons_succ]
          refine anyL_ready (rs := [0]) (by kernel_rfl) (by simp) ?_
          refine AllL.cons rfl (fun K hK => ?_) AllL.nil
          go_simp
          refine unhide hK _ _ (fun _ => unhide HSW _ (E32.trans (b32.mono E32.size))) ?_
          clear hK K
          refine anyL_ready (rs := [2]) (by kernel_rfl) (by simp) ?_
          refine AllL.cons rfl (fun K hK => ?_) AllL.nil
          refine step_append_knownS rfl _ _ 30 30 rfl _ _ rfl rfl _ _ (unhide R32) ?_
          go_simp
          refine unhide hK _ _ (fun _ => unhide HSW _ F32) ?_
          clear hK K R32
          refine anyL_ready (rs := [12]) (by kernel_rfl) (by simp) ?_
          refine AllL.cons rfl (fun K hK => ?_) AllL.nil
          go_simp
          refine (unhide HC32).mono ?_
          rintro e n32 ⟨rfl, x32⟩
          have G32 := F32.trans (x32.mono F32.size)
          refine unhide hK _ _ (fun _ => unhide HSW _ G32) ?_
          clear hK K x32
          refine anyL_take (i := 13) (v := ?vsy2723) rfl (by kernel_rfl) (by kernel_rfl) (by kernel_rfl) (by kernel_rfl) (fun _ _ _ h => h) (Or.inl ⟨by rfl, ?hsy2723⟩) (unhide HSW _ G32) ?_
          case hsy2723 => (intro w hSw; (try dsimp only at hSw); go_simp) <;> with_reducible rfl
          simp only [Act.put, List.getElem_toArray, List.getElem_cons_zero, List.getElem_cons_succ, List.setIfInBounds_toArray, List.set_cons_zero, List.set_cons_succ]
          refine anyL_take (i := 14) (v := ?vsy2724) rfl (by kernel_rfl) (by kernel_rfl) (by kernel_rfl) (by kernel_rfl) (fun _ _ _ h => h) (Or.inl ⟨by rfl, ?hsy2724⟩) (unhide HSW _ G32) ?_
          case hsy2724 => (intro w hSw; (try dsimp only at hSw); go_simp) <;> with_reducible rfl
          simp only [Act.put, List.getElem_toArray, List.getElem_cons_zero, List.getElem_cons_succ, List.setIfInBounds_toArray, List.set_cons_zero, List.set_cons_succ]
          refine anyL_take (i := 15) (v := ?vsy2725) rfl (by kernel_rfl) (by kernel_rfl) (by kernel_rfl) (by kernel_rfl) (fun _ _ _ h => h) (Or.inl ⟨by rfl, ?hsy2725⟩) (unhide HSW _ G32) ?_
          case hsy2725 => (intro w hSw; (try dsimp only at hSw); go_simp) <;> with_reducible rfl
          simp only [Act.put, List.getElem_toArray, List.getElem_cons_zero, List.getElem_cons_succ, List.setIfInBounds_toArray, List.set_cons_zero, List.set_cons_succ]
          refine anyL_take (i := 16) (v := ?vsy2726) rfl (by kernel_rfl) (by kernel_rfl) (by kernel_rfl) (by kernel_rfl) (fun _ _ _ h => h) (Or.inl ⟨by rfl, ?hsy2726⟩) (unhide HSW _ G32) ?_
          case hsy2726 => (intro w hSw; (try dsimp only at hSw); go_simp) <;> with_reducible rfl
          simp only [Act.put, List.getElem_toArray, List.getElem_cons_zero, List.getElem_cons_succ, List.setIfInBounds_toArray, List.set_cons_zero, List.set_cons_succ]
          refine anyL_take (i := 17) (v := ?vsy2727) rfl (by kernel_rfl) (by kernel_rfl) (by kernel_rfl) (by kernel_rfl) (fun _ _ _ h => h) (Or.inl ⟨by rfl, ?hsy2727⟩) (unhide HSW _ G32) ?_
          case hsy2727 => (intro w hSw; (try dsimp only at hSw); go_simp) <;> with_reducible rfl
          simp only [Act.put, List.getElem_toArray, List.getElem_cons_zero, List.getElem_cons_succ, List.setIfInBounds_toArray, List.set_cons_zero, List.set_cons_succ]
          refine anyL_done (by kernel_rfl) ?_ _
          obtain ⟨q0, q1, q2, q3, q4, q5⟩ := unhide HSW _ G32
          go_wp2_with fail
          refine ((unhide HB).a1 n32 G32).mono ?_
          rintro y u1 ⟨rfl, y1⟩
          dsimp only
          have H1 := G32.trans (y1.mono G32.size)
          clear y1 G32 q0 q1 q2 q3 q4 q5
          obtain ⟨q0, q1, q2, q3, q4, q5⟩ := unhide HSW _ H1
          go_wp2_with fail
          refine ((unhide HB).a2 u1 H1).mono ?_
          rintro y u2 ⟨rfl, y2⟩
          dsimp only
          have H2 := H1.trans (y2.mono H1.size)
          clear y2 H1 q0 q1 q2 q3 q4 q5
          go_wp2_with fail
          go_roundw
          case rel => exact ⟨⟨_, rfl⟩, ⟨_, rfl⟩, ⟨_, rfl⟩, ⟨_, rfl⟩, ⟨_, rfl⟩, ⟨_, rfl⟩, ⟨_, rfl⟩, ⟨_, rfl⟩, ⟨_, rfl⟩, ⟨_, rfl⟩, ⟨_, rfl⟩, ⟨_, rfl⟩, k + 1, by rw [s2], c, hide H2⟩
          case measure => rw [s2, ← unhide HPP]; exact sp_meas c
        · obtain ⟨d4, d5⟩ := s4 c
          clear s3 s4 hk
          go_wp2_with fail
          go_ret
          exact ⟨rfl, (unhide HX8).trans ((unhide HD).mono (unhide HX8).size)⟩

end Go.Proofs.YtophdhpkinedgaaGreatDoor
