/- Layer 17: the law's fixed facts, its comparison of words. Written by wip/tools/pua.py. · Layer 17: the calls of a past of numbers, each by one contract; a script of calls, plain. · Layer 17, plain: what an End, a Do, an Undo and a Redo make of a past; lists of words beside a past. -/
import Derived.Test.YtdemfejladepjaaMg11
import Derived.Test.YtdemfejladepjaaMg15
import Derived.Test.YtdemfejladepjaaMg06

section
namespace Go.Proofs.Ytdemfejladepjaa
open Go.ChangeShapes Go.WideShapes Go.ChangeAt Go.RowKit
attribute [local go_sem] Oper.semAt_some

theorem gr_on {B : Nat} {w X Y : World} {F G : Nat → Prop} (hB : B ≤ w.heap.size) (hx : Below B w X) (hF : ∀ i, F i → B ≤ i) (h : Gr F X G Y) : Below B w Y ∧ ∀ i, G i → B ≤ i :=
  ⟨hx.trans (h.kp.below (Nat.le_trans hB hx.size) hF), h.lo (Nat.le_trans hB hx.size) hF⟩
theorem Below.drewB {B : Nat} (w : World) : Below B w w.drew := (Below.refl B w).drew
theorem baL (x y : ByteArray) : (x.toList == y.toList) = decide (x = y) := by
  rw [ByteArray.toList_eq, ByteArray.toList_eq]
  by_cases h : x = y
  · subst h; simp
  · rw [decide_eq_false h, beq_eq_false_iff_ne]
    intro e
    refine h ?_
    cases x; cases y
    simpa using e
theorem fx1 : doP (⟨⟨#[97]⟩, 2, [], [], none⟩ : Pa ByteArray) ⟨#[98]⟩ ⟨#[111, 110, 101]⟩ = (⟨⟨#[98]⟩, 2, [(⟨#[97]⟩, ⟨#[111, 110, 101]⟩)], [], none⟩ : Pa ByteArray) := by simp [doP, keepP]
theorem fx2 : doP (⟨⟨#[98]⟩, 2, [(⟨#[97]⟩, ⟨#[111, 110, 101]⟩)], [], none⟩ : Pa ByteArray) ⟨#[99]⟩ ⟨#[116, 119, 111]⟩ = (⟨⟨#[99]⟩, 2, [(⟨#[97]⟩, ⟨#[111, 110, 101]⟩), (⟨#[98]⟩, ⟨#[116, 119, 111]⟩)], [], none⟩ : Pa ByteArray) := by simp [doP, keepP]
theorem fx3 : doP (⟨⟨#[99]⟩, 2, [(⟨#[97]⟩, ⟨#[111, 110, 101]⟩), (⟨#[98]⟩, ⟨#[116, 119, 111]⟩)], [], none⟩ : Pa ByteArray) ⟨#[100]⟩ ⟨#[116, 104, 114, 101, 101]⟩ = (⟨⟨#[100]⟩, 2, [(⟨#[98]⟩, ⟨#[116, 119, 111]⟩), (⟨#[99]⟩, ⟨#[116, 104, 114, 101, 101]⟩)], [], none⟩ : Pa ByteArray) := by simp [doP, keepP]
set_option maxRecDepth 100000 in
set_option maxHeartbeats 4000000 in
theorem fixed17_at (w : World) : Calls Try.prog 4 #[] w fun y Y => y = .returned (.bool true) ∧ Below w.heap.size w Y := by
  have HC := hide (NewS_at ⟨#[97]⟩ 2 w (by omega))
  go_enter Try.func4, Try.ntmps4
  go_wp2_with fail
  refine (unhide HC).mono ?_
  rintro y w0 ⟨g, F0, rfl, i0, l0, x0⟩
  dsimp only
  have HI0 := hide i0
  have HB0 := hide (And.intro x0 l0)
  clear HC i0 x0 l0
  have HC := hide (Do0S_at w0 F0 g (⟨⟨#[97]⟩, 2, [], [], none⟩ : Pa ByteArray) (unhide HI0) ⟨#[98]⟩ ⟨#[111, 110, 101]⟩ rfl (by decide) (by simp))
  rw [fx1] at HC
  go_wp2_with fail
  refine (unhide HC).mono ?_
  rintro y w1 ⟨rfl, F1, i1, g1⟩
  dsimp only
  have HI1 := hide i1
  have HB1 := hide (gr_on (Nat.le_refl _) (unhide HB0).1 (unhide HB0).2 g1)
  clear HC i1 g1 HI0 HB0
  have HC := hide (Do0S_at w1 F1 g (⟨⟨#[98]⟩, 2, [(⟨#[97]⟩, ⟨#[111, 110, 101]⟩)], [], none⟩ : Pa ByteArray) (unhide HI1) ⟨#[99]⟩ ⟨#[116, 119, 111]⟩ rfl (by decide) (by simp))
  rw [fx2] at HC
  go_wp2_with fail
  refine (unhide HC).mono ?_
  rintro y w2 ⟨rfl, F2, i2, g2⟩
  dsimp only
  have HI2 := hide i2
  have HB2 := hide (gr_on (Nat.le_refl _) (unhide HB1).1 (unhide HB1).2 g2)
  clear HC i2 g2 HI1 HB1
  have HC := hide (Do0S_at w2 F2 g (⟨⟨#[99]⟩, 2, [(⟨#[97]⟩, ⟨#[111, 110, 101]⟩), (⟨#[98]⟩, ⟨#[116, 119, 111]⟩)], [], none⟩ : Pa ByteArray) (unhide HI2) ⟨#[100]⟩ ⟨#[116, 104, 114, 101, 101]⟩ rfl (by decide) (by simp))
  rw [fx3] at HC
  go_wp2_with fail
  refine (unhide HC).mono ?_
  rintro y w3 ⟨rfl, F3, i3, g3⟩
  dsimp only
  have HI3 := hide i3
  have HB3 := hide (gr_on (Nat.le_refl _) (unhide HB2).1 (unhide HB2).2 g3)
  clear HC i3 g3 HI2 HB2
  have HC := hide (Undo1S_at w3 F3 g (⟨⟨#[100]⟩, 2, [(⟨#[98]⟩, ⟨#[116, 119, 111]⟩), (⟨#[99]⟩, ⟨#[116, 104, 114, 101, 101]⟩)], [], none⟩ : Pa ByteArray) (unhide HI3) rfl [(⟨#[98]⟩, ⟨#[116, 119, 111]⟩)] ⟨#[99]⟩ ⟨#[116, 104, 114, 101, 101]⟩ rfl (by simp) (by simp))
  go_wp2_with fail
  refine (unhide HC).mono ?_
  rintro y w4 ⟨rfl, F4, i4, g4⟩
  dsimp only
  have HI4 := hide i4
  have HB4 := hide (gr_on (Nat.le_refl _) (unhide HB3).1 (unhide HB3).2 g4)
  clear HC i4 g4 HI3 HB3
  have HC := hide (NowS_at w4 F4 g _ (unhide HI4))
  dsimp only at HC
  go_wp2_with fail
  refine (unhide HC).mono ?_
  rintro y w5 ⟨rfl, rfl⟩
  dsimp only
  clear HC
  go_wp2_with fail
  exact bodyPost_ret (results_tmp rfl _ _ _) rfl ⟨rfl, (unhide HB4).1⟩
set_option maxRecDepth 100000 in
set_option maxHeartbeats 4000000 in
theorem wordsL_at (X : World) (v1 v2 : Value) (l1 l2 : List ByteArray) (k1 k2 : Option Nat) (h1 : RS X v1 l1 k1) (h2 : RS X v2 l2 k2) (hl : l1.length ≤ 1000000) :
    Calls Try.prog 18 #[v1, v2] X fun y Y => y = .returned (.bool (decide (l1 = l2))) ∧ Below X.heap.size X Y := by
  obtain ⟨a1, c1, rfl⟩ := h1.val
  obtain ⟨a2, c2, rfl⟩ := h2.val
  by_cases hn : l1.length = l2.length
  · have HX1 := hide fun (Z : World) (hZ : Below X.heap.size X Z) => h1.below hZ
    have HX2 := hide fun (Z : World) (hZ : Below X.heap.size X Z) => h2.below hZ
    obtain ⟨R, hR⟩ : ∃ R, R = decide (l1 = l2) := ⟨_, rfl⟩
    rw [← hR]
    have HR := hide hR
    have t1 : ((l1.length : Int) != (l2.length : Int)) = false := by simp [hn]
    clear h1 h2 hR
    go_enter Try.func18, Try.ntmps18
    go_wp2_with fail
    go_loopw [5, 13] (fun v5 v13 wx => (∃ z, v5 = z) ∧ (∃ k : Nat, v13 = .int .i64 (k : Int) ∧ k ≤ l1.length ∧ Hid (l1.take k = l2.take k)) ∧ Hid (Below X.heap.size X wx)) (fun _ v13 _ => l1.length - (intOf v13).toNat)
    case atStart => exact ⟨⟨_, rfl⟩, ⟨0, rfl, Nat.zero_le _, hide rfl⟩, hide (Below.refl _ _)⟩
    case round =>
      obtain ⟨⟨z1, rfl⟩, ⟨k, rfl, hk, HT⟩, HB⟩ := hrel
      by_cases hlt : k < l1.length
      · have u1 : decide ((k : Int) < (l1.length : Int)) = true := decide_eq_true (by omega)
        have hlt2 : k < l2.length := by omega
        obtain ⟨g1, o1, c1', e1, _, _, d1⟩ := (unhide HX1 wr (unhide HB)).get hlt
        obtain ⟨g2, o2, c2', e2, _, _, d2⟩ := (unhide HX2 wr (unhide HB)).get hlt2
        cases e1
        cases e2
        have i1 : (k : Int) < (l1.length : Int) := by omega
        have i2 : (k : Int) < (l2.length : Int) := by omega
        have wk : wrap64 ((k : Int) + 1) = ((k + 1 : Nat) : Int) := by unfold wrap64; omega
        have HE : Hid (l1[k] = l2[k] → l1.take (k + 1) = l2.take (k + 1)) := hide fun e => by
          rw [List.take_succ_eq_append_getElem hlt, List.take_succ_eq_append_getElem hlt2, unhide HT, e]
        have HNE : Hid (l1[k] ≠ l2[k] → R = false) := hide fun e => by
          rw [unhide HR]
          refine decide_eq_false (fun h => e ?_)
          subst h; rfl
        generalize l1[k] = x1 at *
        generalize l2[k] = x2 at *
        clear HR HX1 HX2 HT
        by_cases hx : x1 = x2
        · have b1 : (x1.toList == x2.toList) = false.not := by rw [baL]; exact decide_eq_true hx
          have b2 : (x1.toList != x2.toList) = false := by rw [bne, b1]; rfl
          have HN := hide (unhide HE hx)
          have HBD := hide ((unhide HB).trans (Below.drewB wr))
          clear HE HNE hx
          go_upto_region 6 with fail
          go_region
          go_wp2_with fail
          go_roundw
          case rel => exact ⟨⟨_, rfl⟩, ⟨k + 1, by first | rfl | rw [wk], hlt, HN⟩, HBD⟩
          case measure => simp [intOf]; omega
        · have b1 : (x1.toList == x2.toList) = false := by rw [baL]; exact decide_eq_false hx
          have b2 : (x1.toList != x2.toList) = true := by rw [bne, b1]; rfl
          have hRF := unhide HNE hx
          subst hRF
          have HBD := hide ((unhide HB).trans (Below.drewB wr))
          clear HE HNE hx
          go_upto_region 6 with fail
          go_region
          go_wp2_with fail
          exact bodyPost_ret (results_tmp rfl _ _ _) rfl ⟨rfl, unhide HBD⟩
      · obtain rfl : k = l1.length := by omega
        have u1 : decide ((l1.length : Int) < (l1.length : Int)) = false := decide_eq_false (by omega)
        have hRT : R = true := by
          rw [unhide HR]
          refine decide_eq_true ?_
          have := unhide HT
          rw [List.take_length, hn, List.take_length] at this
          exact this
        subst hRT
        clear HR HX1 HX2 HT
        go_wp2_with fail
        exact bodyPost_ret (results_tmp rfl _ _ _) rfl ⟨rfl, unhide HB⟩
  · have t1 : ((l1.length : Int) != (l2.length : Int)) = true := by simp; omega
    have hd : decide (l1 = l2) = false := decide_eq_false (fun e => hn (by rw [e]))
    rw [hd]
    clear h1 h2 hd
    go_enter Try.func18, Try.ntmps18
    go_wp2_with fail
    exact bodyPost_ret (results_tmp rfl _ _ _) rfl ⟨rfl, Below.refl _ _⟩
end Go.Proofs.Ytdemfejladepjaa
end

section
namespace Go.Proofs.Ytdemfejladepjaa
open Go.ChangeShapes Go.WideShapes Go.ChangeAt Go.RowKit

def anS (x : Option (Int × ByteArray)) : Int := match x with | none => 0 | some y => y.1
def anW {α : Type} (x : Option (α × ByteArray)) : ByteArray := match x with | none => ⟨#[]⟩ | some y => y.2
theorem DoA_at (X : World) (F : Nat → Prop) (g : Nat) (p : Pa Int) (h : PsI X F g p) (hok : OkP p) (x : Int) (w : ByteArray) (hw : w.size ≤ 281474976710656) :
    Calls Try.prog 29 #[.pointer (some ⟨g, 0, none⟩), .int .i64 x, .string w] X fun y Y => y = .returned (.int .i64 0) ∧ ∃ G, PsI Y G g (doP p x w) ∧ Gr F X G Y := by
  cases ho : p.o with
  | none => exact Do0I_at X F g p h x w ho hw hok.bl
  | some y => obtain ⟨y, d⟩ := y; exact Do1I_at X F g p h x w y d ho
theorem undoP_some {α : Type} {p : Pa α} (h : p.o.isSome = true) : undoP p = (p, none, 171) := by
  unfold undoP
  cases ho : p.o with
  | none => rw [ho] at h; cases h
  | some _ => rfl
theorem redoP_some {α : Type} {p : Pa α} (h : p.o.isSome = true) : redoP p = (p, none, 171) := by
  unfold redoP
  cases ho : p.o with
  | none => rw [ho] at h; cases h
  | some _ => rfl
theorem undoP_nil {α : Type} {p : Pa α} (h : p.o = none) (hb : p.b = []) : undoP p = (p, none, 170) := by unfold undoP; rw [h, hb]; rfl
theorem redoP_nil {α : Type} {p : Pa α} (h : p.o = none) (hb : p.a = []) : redoP p = (p, none, 170) := by unfold redoP; rw [h, hb]; rfl
theorem undoP_app {α : Type} {p : Pa α} (h : p.o = none) {Q : List (α × ByteArray)} {x : α × ByteArray} (hb : p.b = Q ++ [x]) : undoP p = ({ p with s := x.1, b := Q, a := p.a ++ [(p.s, x.2)] }, some x, 0) := by
  unfold undoP; rw [h, hb]; simp
theorem redoP_app {α : Type} {p : Pa α} (h : p.o = none) {Q : List (α × ByteArray)} {x : α × ByteArray} (hb : p.a = Q ++ [x]) : redoP p = ({ p with s := x.1, a := Q, b := p.b ++ [(p.s, x.2)] }, some x, 0) := by
  unfold redoP; rw [h, hb]; simp
theorem list_end {α : Type} (l : List α) : l = [] ∨ ∃ Q x, l = Q ++ [x] := by
  rcases List.eq_nil_or_concat l with h | ⟨Q, x, h⟩
  · exact .inl h
  · exact .inr ⟨Q, x, by simpa using h⟩
theorem UndoA_at (X : World) (F : Nat → Prop) (g : Nat) (p : Pa Int) (h : PsI X F g p) (hok : OkP p) :
    Calls Try.prog 31 #[.pointer (some ⟨g, 0, none⟩)] X fun y Y => y = .returned (.tuple #[.int .i64 (anS (undoP p).2.1), .string (anW (undoP p).2.1), .int .i64 (undoP p).2.2]) ∧ ∃ G, PsI Y G g (undoP p).1 ∧ Gr F X G Y := by
  by_cases ho : p.o.isSome = true
  · rw [undoP_some ho]
    refine (Undo2I_at X F g p h ho).mono ?_
    rintro y Y ⟨rfl, rfl⟩
    exact ⟨rfl, F, h, Gr.refl _ _⟩
  · have ho : p.o = none := by simpa using ho
    rcases list_end p.b with hb | ⟨Q, x, hb⟩
    · rw [undoP_nil ho hb]
      exact Undo0I_at X F g p h ho hb
    · rw [undoP_app ho hb]
      have hl : (Q ++ [x]).length ≤ 4096 := hb ▸ hok.bl
      rw [List.length_append] at hl
      exact Undo1I_at X F g p h ho Q x.1 x.2 hb hok.al (by simp at hl; omega)
theorem RedoA_at (X : World) (F : Nat → Prop) (g : Nat) (p : Pa Int) (h : PsI X F g p) (hok : OkP p) :
    Calls Try.prog 33 #[.pointer (some ⟨g, 0, none⟩)] X fun y Y => y = .returned (.tuple #[.int .i64 (anS (redoP p).2.1), .string (anW (redoP p).2.1), .int .i64 (redoP p).2.2]) ∧ ∃ G, PsI Y G g (redoP p).1 ∧ Gr F X G Y := by
  by_cases ho : p.o.isSome = true
  · rw [redoP_some ho]
    refine (Redo2I_at X F g p h ho).mono ?_
    rintro y Y ⟨rfl, rfl⟩
    exact ⟨rfl, F, h, Gr.refl _ _⟩
  · have ho : p.o = none := by simpa using ho
    rcases list_end p.a with hb | ⟨Q, x, hb⟩
    · rw [redoP_nil ho hb]
      exact Redo0I_at X F g p h ho hb
    · rw [redoP_app ho hb]
      have hl : (Q ++ [x]).length ≤ 4096 := hb ▸ hok.al
      rw [List.length_append] at hl
      exact Redo1I_at X F g p h ho Q x.1 x.2 hb hok.bl (by simp at hl; omega)
theorem BeginA_at (X : World) (F : Nat → Prop) (g : Nat) (p : Pa Int) (h : PsI X F g p) (w : ByteArray) (hw : w.size ≤ 281474976710656) :
    Calls Try.prog 35 #[.pointer (some ⟨g, 0, none⟩), .string w] X fun y Y => y = .returned (.int .i64 (beginP p w).2) ∧ ∃ G, PsI Y G g (beginP p w).1 ∧ Gr F X G Y := by
  by_cases ho : p.o.isSome = true
  · have e : beginP p w = (p, 171) := by
      unfold beginP
      cases hp : p.o with
      | none => rw [hp] at ho; cases ho
      | some _ => rfl
    rw [e]
    refine (Begin2I_at X F g p h ho w).mono ?_
    rintro y Y ⟨rfl, rfl⟩
    exact ⟨rfl, F, h, Gr.refl _ _⟩
  · have ho : p.o = none := by simpa using ho
    have e : (beginP p w).2 = 0 := by unfold beginP; rw [ho]
    rw [e]
    exact Begin0I_at X F g p h w ho hw
theorem ForgetA_at (X : World) (F : Nat → Prop) (g : Nat) (p : Pa Int) (h : PsI X F g p) :
    Calls Try.prog 39 #[.pointer (some ⟨g, 0, none⟩)] X fun y Y => y = .returned (.int .i64 (forgetP p).2) ∧ ∃ G, PsI Y G g (forgetP p).1 ∧ Gr F X G Y := by
  by_cases ho : p.o.isSome = true
  · have e : forgetP p = (p, 171) := by
      unfold forgetP
      cases hp : p.o with
      | none => rw [hp] at ho; cases ho
      | some _ => rfl
    rw [e]
    refine (Forget2I_at X F g p h ho).mono ?_
    rintro y Y ⟨rfl, rfl⟩
    exact ⟨rfl, F, h, Gr.refl _ _⟩
  · have ho : p.o = none := by simpa using ho
    have e : (forgetP p).2 = 0 := by unfold forgetP; rw [ho]
    rw [e]
    exact Forget0I_at X F g p h ho
theorem EndA_at (X : World) (F : Nat → Prop) (g : Nat) (p : Pa Int) (h : PsI X F g p) (hok : OkP p) :
    Calls Try.prog 37 #[.pointer (some ⟨g, 0, none⟩)] X fun y Y => y = .returned (.int .i64 (endP p).2) ∧ ∃ G, PsI Y G g (endP p).1 ∧ Gr F X G Y := by
  cases ho : p.o with
  | none =>
    have e : endP p = (p, 171) := by unfold endP; rw [ho]
    rw [e]
    refine (End2I_at X F g p h ho).mono ?_
    rintro y Y ⟨rfl, rfl⟩
    exact ⟨rfl, F, h, Gr.refl _ _⟩
  | some y =>
    obtain ⟨x, d⟩ := y
    have e : (endP p).2 = 0 := by unfold endP; rw [ho]
    rw [e]
    cases d with
    | false => exact EndFalseI_at X F g p h x ho
    | true => exact EndTrueI_at X F g p h x ho hok.bl

/-- one call of a script -/
structure Oq where
  k : Int
  n : Int
  w : ByteArray
def oqZ : Oq := ⟨0, 0, ⟨#[]⟩⟩
def IsQ (W : World) (a : Option Addr) (d : List Oq) : Prop := d = [] ∨ ∃ g off, a = some ⟨g, off, none⟩ ∧ g < W.heap.size ∧ ∀ k, k < d.length →
  W.cell? ⟨g, off + k * 3, none⟩ = some (.int .i64 (d.getD k oqZ).k) ∧ W.cell? ⟨g, off + k * 3 + 1, none⟩ = some (.int .i64 (d.getD k oqZ).n) ∧ W.cell? ⟨g, off + k * 3 + 2, none⟩ = some (.string (d.getD k oqZ).w)
theorem IsQ.below {W W' : World} {B : Nat} {a : Option Addr} {d : List Oq} (h : IsQ W a d) (hb : Below B W W') (hB : W.heap.size ≤ B) : IsQ W' a d := by
  rcases h with h | ⟨g, off, rfl, hg, hc⟩
  · exact Or.inl h
  · refine Or.inr ⟨g, off, rfl, Nat.lt_of_lt_of_le hg hb.size, fun k hk => ?_⟩
    obtain ⟨c0, c1, c2⟩ := hc k hk
    exact ⟨(hb.cell (p := ⟨g, off + k * 3, none⟩) (by show g < B; omega)).trans c0, (hb.cell (p := ⟨g, off + k * 3 + 1, none⟩) (by show g < B; omega)).trans c1, (hb.cell (p := ⟨g, off + k * 3 + 2, none⟩) (by show g < B; omega)).trans c2⟩
theorem IsQ.three {W : World} {a : Option Addr} {d : List Oq} (h : IsQ W a d) {k : Nat} (hk : k < d.length) : ∃ g off, a = some ⟨g, off, none⟩ ∧ g < W.heap.size ∧
    W.cell? ⟨g, off + k * 3, none⟩ = some (.int .i64 (d.getD k oqZ).k) ∧ W.cell? ⟨g, off + k * 3 + 1, none⟩ = some (.int .i64 (d.getD k oqZ).n) ∧ W.cell? ⟨g, off + k * 3 + 2, none⟩ = some (.string (d.getD k oqZ).w) := by
  rcases h with h | ⟨g, off, rfl, hg, hc⟩
  · rw [h] at hk; simp at hk
  · exact ⟨g, off, rfl, hg, hc k hk⟩
/-- what a call of a script makes of a past -/
def stP (p : Pa Int) (o : Oq) : Pa Int := if o.k = 1 then doP p o.n o.w else if o.k = 2 then (undoP p).1 else if o.k = 3 then (redoP p).1 else if o.k = 4 then (beginP p o.w).1 else if o.k = 5 then (endP p).1 else if o.k = 6 then (forgetP p).1 else p
def plP (s m : Int) (d : List Oq) : Pa Int := d.foldl stP ⟨s, m, [], [], none⟩
theorem stP_ok {p : Pa Int} (h : OkP p) (o : Oq) : OkP (stP p o) := by
  unfold stP
  split
  · exact h.do _ _
  split
  · exact h.undo
  split
  · exact h.redo
  split
  · exact h.begin _
  split
  · exact h.ends
  split
  · exact h.forget
  · exact h
theorem foldP_ok : ∀ (d : List Oq) {p : Pa Int}, OkP p → OkP (d.foldl stP p)
  | [], _, h => h
  | o :: r, _, h => foldP_ok r (stP_ok h o)
theorem plP_ok (s m : Int) (h0 : 0 ≤ m) (h1 : m ≤ 4096) (d : List Oq) : OkP (plP s m d) := foldP_ok d (OkP.new s m h0 h1)
theorem plP_take (s m : Int) (d : List Oq) {k : Nat} (hk : k < d.length) : plP s m (d.take (k + 1)) = stP (plP s m (d.take k)) (d.getD k oqZ) := by
  unfold plP
  rw [List.take_succ_eq_append_getElem hk, List.foldl_append]
  simp [List.getD, List.getElem?_eq_getElem hk]
/-- numbers that came in -/
def IsLi (W : World) (a : Option Addr) (l : List Int) : Prop := l = [] ∨ ∃ g off, a = some ⟨g, off, none⟩ ∧ g < W.heap.size ∧ ∀ k, k < l.length → W.cell? ⟨g, off + k, none⟩ = some (.int .i64 (l.getD k 0))
theorem IsLi.below {W W' : World} {B : Nat} {a : Option Addr} {l : List Int} (h : IsLi W a l) (hb : Below B W W') (hB : W.heap.size ≤ B) : IsLi W' a l := by
  rcases h with h | ⟨g, off, rfl, hg, hc⟩
  · exact .inl h
  · exact .inr ⟨g, off, rfl, Nat.lt_of_lt_of_le hg hb.size, fun k hk => (hb.cell (p := ⟨g, off + k, none⟩) (by show g < B; omega)).trans (hc k hk)⟩
theorem IsLi.one {W : World} {a : Option Addr} {l : List Int} (h : IsLi W a l) {k : Nat} (hk : k < l.length) : ∃ g off, a = some ⟨g, off, none⟩ ∧ W.cell? ⟨g, off + k, none⟩ = some (.int .i64 (l.getD k 0)) := by
  rcases h with h | ⟨g, off, rfl, hg, hc⟩
  · rw [h] at hk; simp at hk
  · exact ⟨g, off, rfl, hc k hk⟩
end Go.Proofs.Ytdemfejladepjaa
end

section
namespace Go.Proofs.Ytdemfejladepjaa
open Go.ChangeShapes Go.WideShapes Go.ChangeAt Go.RowKit

theorem RS.on {F G : Nat → Prop} {X Y : World} {v : Value} {l : List ByteArray} {k : Option Nat} (h : RS X v l k) (hk : ∀ i, k = some i → ¬ F i) (g : Gr F X G Y) : RS Y v l k ∧ ∀ i, k = some i → ¬ G i :=
  ⟨h.kpf g.kp hk, fun i e => g.out (RA.lt h i e) (hk i e)⟩
theorem RI.on {F G : Nat → Prop} {X Y : World} {v : Value} {l : List Int} {k : Option Nat} (h : RI X v l k) (hk : ∀ i, k = some i → ¬ F i) (g : Gr F X G Y) : RI Y v l k ∧ ∀ i, k = some i → ¬ G i :=
  ⟨h.kpf g.kp hk, fun i e => g.out (RA.lt h i e) (hk i e)⟩
theorem endP_none {α : Type} (p : Pa α) : (endP p).1.o = none := by
  unfold endP
  split
  · assumption
  · rfl
theorem endP_m {α : Type} (p : Pa α) : (endP p).1.m = p.m := by
  unfold endP
  split <;> rfl
theorem stP_m (p : Pa Int) (o : Oq) : (stP p o).m = p.m := by
  have h1 : (doP p o.n o.w).m = p.m := by unfold doP; split <;> rfl
  have h2 : (undoP p).1.m = p.m := by
    unfold undoP
    split
    · rfl
    · split <;> rfl
  have h3 : (redoP p).1.m = p.m := by
    unfold redoP
    split
    · rfl
    · split <;> rfl
  have h4 : (beginP p o.w).1.m = p.m := by unfold beginP; split <;> rfl
  have h6 : (forgetP p).1.m = p.m := by unfold forgetP; split <;> rfl
  unfold stP
  repeat' split
  all_goals first | exact h1 | exact h2 | exact h3 | exact h4 | exact endP_m p | exact h6 | rfl
theorem foldP_m : ∀ (d : List Oq) (p : Pa Int), (d.foldl stP p).m = p.m
  | [], _ => rfl
  | o :: r, p => (foldP_m r (stP p o)).trans (stP_m p o)
theorem plP_m (s m : Int) (d : List Oq) : (plP s m d).m = m := foldP_m d _
/-- the state in which the laws begin: behind a script, outside of a group -/
theorem begP (m : Int) (h0 : 0 ≤ m) (h1 : m ≤ 4096) (d : List Oq) : ∃ P : Pa Int, P = (endP (plP 0 m d)).1 ∧ OkP P ∧ P.o = none ∧ P.m = m :=
  ⟨_, rfl, (plP_ok 0 m h0 h1 d).ends, endP_none _, (endP_m _).trans (plP_m _ _ _)⟩
/-- the words behind a Do -/
theorem keep_words {α : Type} {m : Int} (hm : 0 ≤ m) (b : List (α × ByteArray)) (x : α × ByteArray) (hb : (b.length : Int) ≤ m) :
    (keepP m b x).reverse.map (·.2) = (x.2 :: b.reverse.map (·.2)).take (min (b.length + 1) m.toNat) := by
  unfold keepP
  split
  · rename_i h
    have e : m.toNat = b.length := by omega
    rw [e, Nat.min_eq_right (by omega), List.reverse_drop, List.map_take]
    simp
  · rename_i h
    rw [Nat.min_eq_left (by omega), List.take_of_length_le (by simp)]
    simp
theorem keep_last {α : Type} {m : Int} (hm : 0 < m) (b : List (α × ByteArray)) (x : α × ByteArray) (hb : (b.length : Int) ≤ m) : ∃ Q, keepP m b x = Q ++ [x] ∧ (Q.length : Int) ≤ m := by
  unfold keepP
  split
  · rename_i h
    refine ⟨b.drop 1, ?_, by rw [List.length_drop]; omega⟩
    rw [List.drop_append_of_le_length (by omega)]
  · exact ⟨b, rfl, hb⟩
theorem keep_zero {α : Type} (b : List (α × ByteArray)) (x : α × ByteArray) (hb : (b.length : Int) ≤ 0) : keepP 0 b x = [] := by
  have : b = [] := List.eq_nil_of_length_eq_zero (by omega)
  subst this
  unfold keepP
  rw [if_pos (by simp)]
  rfl
end Go.Proofs.Ytdemfejladepjaa
end
