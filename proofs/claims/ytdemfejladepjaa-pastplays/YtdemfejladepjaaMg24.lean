/- Layer 17: nil pasts, and one contract a call. Written by wip/tools/pvd.py. -/
import Derived.Test.YtdemfejladepjaaMg19
import Derived.Test.YtdemfejladepjaaMg23
import Derived.Test.YtdemfejladepjaaMg16

namespace Go.Proofs.Ytdemfejladepjaa
open Go.ChangeShapes Go.WideShapes Go.ChangeAt Go.RowKit
attribute [local go_sem] Oper.semAt_some

def sS : ByteArray := ⟨#[115]⟩
def anQ (x : Option (Int × ByteArray)) : Int × ByteArray := match x with | none => (0, ⟨#[]⟩) | some y => (y.1, sS)
def mq (x : Int × ByteArray) : (Int × ByteArray) × ByteArray := ((x.1, sS), x.2)
/-- the past of pairs that goes with a past of numbers -/
def mpQ (p : Pa Int) : Pa (Int × ByteArray) := ⟨(p.s, sS), p.m, p.b.map mq, p.a.map mq, p.o.map fun x => (mq x.1, x.2)⟩
theorem mpQ_ok {p : Pa Int} (h : OkP p) : OkP (mpQ p) := by
  refine ⟨h.m0, h.m1, by simpa [mpQ] using h.l, fun x hx => ?_⟩
  obtain ⟨y, hy, e⟩ : ∃ y, p.o = some y ∧ (mq y.1, y.2) = (x, true) := by
    unfold mpQ at hx
    cases ho : p.o with
    | none => rw [ho] at hx; cases hx
    | some y => rw [ho] at hx; exact ⟨y, rfl, by simpa using hx⟩
  injection e with e1 e2
  have := h.g y.1 (by rw [hy, ← e2])
  simp [mpQ, this]
theorem keep_mq (m : Int) (b : List (Int × ByteArray)) (x : Int × ByteArray) : keepP m (b.map mq) (mq x) = (keepP m b x).map mq := by
  unfold keepP
  rw [List.length_map]
  split <;> simp
theorem mpQ_do (p : Pa Int) (x : Int) (w : ByteArray) : doP (mpQ p) (x, sS) w = mpQ (doP p x w) := by
  cases ho : p.o with
  | none =>
    have e : (mpQ p).o = none := by simp [mpQ, ho]
    unfold doP
    rw [e, ho]
    simp only [mpQ, ho, List.map_nil, Option.map_none]
    congr 1
    exact keep_mq p.m p.b (p.s, w)
  | some y =>
    have e : (mpQ p).o = some (mq y.1, y.2) := by simp [mpQ, ho]
    unfold doP
    rw [e, ho]
    simp [mpQ, mq]
theorem mpQ_undo (p : Pa Int) : (undoP (mpQ p)).1 = mpQ (undoP p).1 ∧ (undoP (mpQ p)).2.1 = (undoP p).2.1.map mq ∧ (undoP (mpQ p)).2.2 = (undoP p).2.2 := by
  cases ho : p.o with
  | some y =>
    have e : (mpQ p).o.isSome = true := by simp [mpQ, ho]
    rw [undoP_some e, undoP_some (by rw [ho]; rfl)]
    exact ⟨rfl, rfl, rfl⟩
  | none =>
    have e : (mpQ p).o = none := by simp [mpQ, ho]
    rcases list_end p.b with hb | ⟨Q, x, hb⟩
    · rw [undoP_nil e (by simp [mpQ, hb]), undoP_nil ho hb]
      exact ⟨rfl, rfl, rfl⟩
    · rw [undoP_app e (Q := Q.map mq) (x := mq x) (by simp [mpQ, hb]), undoP_app ho hb]
      refine ⟨?_, rfl, rfl⟩
      simp [mpQ, mq, ho]
theorem mpQ_redo (p : Pa Int) : (redoP (mpQ p)).1 = mpQ (redoP p).1 ∧ (redoP (mpQ p)).2.1 = (redoP p).2.1.map mq ∧ (redoP (mpQ p)).2.2 = (redoP p).2.2 := by
  cases ho : p.o with
  | some y =>
    have e : (mpQ p).o.isSome = true := by simp [mpQ, ho]
    rw [redoP_some e, redoP_some (by rw [ho]; rfl)]
    exact ⟨rfl, rfl, rfl⟩
  | none =>
    have e : (mpQ p).o = none := by simp [mpQ, ho]
    rcases list_end p.a with hb | ⟨Q, x, hb⟩
    · rw [redoP_nil e (by simp [mpQ, hb]), redoP_nil ho hb]
      exact ⟨rfl, rfl, rfl⟩
    · rw [redoP_app e (Q := Q.map mq) (x := mq x) (by simp [mpQ, hb]), redoP_app ho hb]
      refine ⟨?_, rfl, rfl⟩
      simp [mpQ, mq, ho]
theorem mpQ_begin (p : Pa Int) (w : ByteArray) : (beginP (mpQ p) w).1 = mpQ (beginP p w).1 ∧ (beginP (mpQ p) w).2 = (beginP p w).2 := by
  cases ho : p.o <;> simp [beginP, mpQ, mq, ho]
theorem mpQ_forget (p : Pa Int) : (forgetP (mpQ p)).1 = mpQ (forgetP p).1 ∧ (forgetP (mpQ p)).2 = (forgetP p).2 := by
  cases ho : p.o <;> simp [forgetP, mpQ, ho]
theorem mpQ_end (p : Pa Int) : (endP (mpQ p)).1 = mpQ (endP p).1 ∧ (endP (mpQ p)).2 = (endP p).2 := by
  cases ho : p.o with
  | none => simp [endP, mpQ, ho]
  | some y =>
    obtain ⟨y, d⟩ := y
    cases d with
    | false => simp [endP, mpQ, ho]
    | true => simp [endP, mpQ, ho, keep_mq]
theorem anQ_map (x : Option (Int × ByteArray)) : Value.agg #[.int .i64 (match x.map mq with | none => ((0 : Int), (⟨#[]⟩ : ByteArray)) | some y => y.1).1, .string (match x.map mq with | none => ((0 : Int), (⟨#[]⟩ : ByteArray)) | some y => y.1).2] = .agg #[.int .i64 (anQ x).1, .string (anQ x).2] := by
  cases x <;> rfl
set_option maxRecDepth 100000 in
set_option maxHeartbeats 4000000 in
theorem busyNI_at (X : World) : Calls Try.prog 53 #[.pointer none] X fun y Y => y = .returned (.int .i64 1) ∧ Y = X := by
  go_enter Try.func53, Try.ntmps53
  go_wp2_with fail
  exact bodyPost_ret (results_tmp rfl _ _ _) rfl ⟨rfl, rfl⟩
set_option maxRecDepth 100000 in
set_option maxHeartbeats 4000000 in
theorem EndNI_at (X : World) : Calls Try.prog 37 #[.pointer none] X fun y Y => y = .returned (.int .i64 1) ∧ Y = X := by
  go_enter Try.func37, Try.ntmps37
  go_wp2_with fail
  exact bodyPost_ret (results_tmp rfl _ _ _) rfl ⟨rfl, rfl⟩
set_option maxRecDepth 100000 in
set_option maxHeartbeats 4000000 in
theorem WordsNI_at (X : World) : Calls Try.prog 16 #[.pointer none] X fun y Y => y = .returned (.tuple #[.slice none 0 0, .slice none 0 0]) ∧ Y = X := by
  go_enter Try.func16, Try.ntmps16
  go_wp2_with fail
  exact bodyPost_ret (results_tmp2 rfl _ _ _) rfl ⟨rfl, rfl⟩
set_option maxRecDepth 100000 in
set_option maxHeartbeats 4000000 in
theorem BeginNI_at (X : World) (w : ByteArray) : Calls Try.prog 35 #[.pointer none, .string w] X fun y Y => y = .returned (.int .i64 1) ∧ Y = X := by
  have HC := hide (busyNI_at X)
  go_enter Try.func35, Try.ntmps35
  go_wp2_with fail
  refine (unhide HC).mono ?_
  rintro y w1 ⟨rfl, rfl⟩
  dsimp only
  clear HC
  go_wp2_with fail
  exact bodyPost_ret (results_tmp rfl _ _ _) rfl ⟨rfl, rfl⟩
set_option maxRecDepth 100000 in
set_option maxHeartbeats 4000000 in
theorem ForgetNI_at (X : World) : Calls Try.prog 39 #[.pointer none] X fun y Y => y = .returned (.int .i64 1) ∧ Y = X := by
  have HC := hide (busyNI_at X)
  go_enter Try.func39, Try.ntmps39
  go_wp2_with fail
  refine (unhide HC).mono ?_
  rintro y w1 ⟨rfl, rfl⟩
  dsimp only
  clear HC
  go_wp2_with fail
  exact bodyPost_ret (results_tmp rfl _ _ _) rfl ⟨rfl, rfl⟩
set_option maxRecDepth 100000 in
set_option maxHeartbeats 4000000 in
theorem DoNI_at (X : World) (x : Int) (w : ByteArray) : Calls Try.prog 29 #[.pointer none, .int .i64 x, .string w] X fun y Y => y = .returned (.int .i64 1) ∧ Y = X := by
  go_enter Try.func29, Try.ntmps29
  go_wp2_with fail
  exact bodyPost_ret (results_tmp rfl _ _ _) rfl ⟨rfl, rfl⟩
set_option maxRecDepth 100000 in
set_option maxHeartbeats 4000000 in
theorem NowNI_at (X : World) : Calls Try.prog 17 #[.pointer none] X fun y Y => y = .returned (.int .i64 0) ∧ Y = X := by
  go_enter Try.func17, Try.ntmps17
  go_wp2_with fail
  exact bodyPost_ret (results_tmp rfl _ _ _) rfl ⟨rfl, rfl⟩
set_option maxRecDepth 100000 in
set_option maxHeartbeats 4000000 in
theorem UndoNI_at (X : World) : Calls Try.prog 31 #[.pointer none] X fun y Y => y = .returned (.tuple #[.int .i64 0, .string ⟨#[]⟩, .int .i64 1]) ∧ Y = X := by
  have HC := hide (busyNI_at X)
  go_enter Try.func31, Try.ntmps31
  go_wp2_with fail
  refine (unhide HC).mono ?_
  rintro y w1 ⟨rfl, rfl⟩
  dsimp only
  clear HC
  go_wp2_with fail
  exact bodyPost_ret (results_tmp3 rfl _ _ _) rfl ⟨rfl, rfl⟩
set_option maxRecDepth 100000 in
set_option maxHeartbeats 4000000 in
theorem RedoNI_at (X : World) : Calls Try.prog 33 #[.pointer none] X fun y Y => y = .returned (.tuple #[.int .i64 0, .string ⟨#[]⟩, .int .i64 1]) ∧ Y = X := by
  have HC := hide (busyNI_at X)
  go_enter Try.func33, Try.ntmps33
  go_wp2_with fail
  refine (unhide HC).mono ?_
  rintro y w1 ⟨rfl, rfl⟩
  dsimp only
  clear HC
  go_wp2_with fail
  exact bodyPost_ret (results_tmp3 rfl _ _ _) rfl ⟨rfl, rfl⟩
set_option maxRecDepth 100000 in
set_option maxHeartbeats 4000000 in
theorem busyNQ_at (X : World) : Calls Try.prog 57 #[.pointer none] X fun y Y => y = .returned (.int .i64 1) ∧ Y = X := by
  go_enter Try.func57, Try.ntmps57
  go_wp2_with fail
  exact bodyPost_ret (results_tmp rfl _ _ _) rfl ⟨rfl, rfl⟩
set_option maxRecDepth 100000 in
set_option maxHeartbeats 4000000 in
theorem EndNQ_at (X : World) : Calls Try.prog 45 #[.pointer none] X fun y Y => y = .returned (.int .i64 1) ∧ Y = X := by
  go_enter Try.func45, Try.ntmps45
  go_wp2_with fail
  exact bodyPost_ret (results_tmp rfl _ _ _) rfl ⟨rfl, rfl⟩
set_option maxRecDepth 100000 in
set_option maxHeartbeats 4000000 in
theorem WordsNQ_at (X : World) : Calls Try.prog 22 #[.pointer none] X fun y Y => y = .returned (.tuple #[.slice none 0 0, .slice none 0 0]) ∧ Y = X := by
  go_enter Try.func22, Try.ntmps22
  go_wp2_with fail
  exact bodyPost_ret (results_tmp2 rfl _ _ _) rfl ⟨rfl, rfl⟩
set_option maxRecDepth 100000 in
set_option maxHeartbeats 4000000 in
theorem BeginNQ_at (X : World) (w : ByteArray) : Calls Try.prog 44 #[.pointer none, .string w] X fun y Y => y = .returned (.int .i64 1) ∧ Y = X := by
  have HC := hide (busyNQ_at X)
  go_enter Try.func44, Try.ntmps44
  go_wp2_with fail
  refine (unhide HC).mono ?_
  rintro y w1 ⟨rfl, rfl⟩
  dsimp only
  clear HC
  go_wp2_with fail
  exact bodyPost_ret (results_tmp rfl _ _ _) rfl ⟨rfl, rfl⟩
set_option maxRecDepth 100000 in
set_option maxHeartbeats 4000000 in
theorem ForgetNQ_at (X : World) : Calls Try.prog 46 #[.pointer none] X fun y Y => y = .returned (.int .i64 1) ∧ Y = X := by
  have HC := hide (busyNQ_at X)
  go_enter Try.func46, Try.ntmps46
  go_wp2_with fail
  refine (unhide HC).mono ?_
  rintro y w1 ⟨rfl, rfl⟩
  dsimp only
  clear HC
  go_wp2_with fail
  exact bodyPost_ret (results_tmp rfl _ _ _) rfl ⟨rfl, rfl⟩
set_option maxRecDepth 100000 in
set_option maxHeartbeats 4000000 in
theorem DoNQ_at (X : World) (x : Int × ByteArray) (w : ByteArray) : Calls Try.prog 41 #[.pointer none, .agg #[.int .i64 x.1, .string x.2], .string w] X fun y Y => y = .returned (.int .i64 1) ∧ Below X.heap.size X Y := by
  have HB := hide ((Below.refl X.heap.size X).alloc (Nat.le_refl _) (.cells #[.int .i64 x.1, .string x.2] 28))
  go_enter Try.func41, Try.ntmps41
  go_wp2_with fail
  exact bodyPost_ret (results_tmp rfl _ _ _) rfl ⟨rfl, unhide HB⟩
set_option maxRecDepth 100000 in
set_option maxHeartbeats 4000000 in
theorem UndoNQ_at (X : World) : Calls Try.prog 42 #[.pointer none] X fun y Y => y = .returned (.tuple #[.agg #[.int .i64 0, .string ⟨#[]⟩], .string ⟨#[]⟩, .int .i64 1]) ∧ Below X.heap.size X Y := by
  have HB := hide ((Below.refl X.heap.size X).alloc (Nat.le_refl _) (.cells #[.int .i64 0, .string ⟨#[]⟩] 28))
  have HRC := hide (Cls.new X 28 #[.int .i64 0, .string ⟨#[]⟩])
  go_enter Try.func42, Try.ntmps42
  go_upto_region 1 with fail
  generalize X.alloc (.cells #[.int .i64 0, .string ⟨#[]⟩] 28) = X1 at *
  have HC := hide (busyNQ_at X1)
  go_wp2_with fail
  refine (unhide HC).mono ?_
  rintro y w1 ⟨rfl, rfl⟩
  dsimp only
  clear HC
  have k1 := (unhide HRC).alloc (.cells #[.int .i64 0, .string ⟨#[]⟩] 28)
  have a0 := k1.cell 0
  have a1 := k1.cell 1
  have f0 := k1.frozen 0
  have f1 := k1.frozen 1
  have k2 := (k1.set 0 (.int .i64 0)).set 1 (.string ⟨#[]⟩)
  have HBB := hide ((((unhide HB).alloc (B := X.heap.size) (unhide HB).size (.cells #[.int .i64 0, .string ⟨#[]⟩] 28)).setCell (p := ⟨X.heap.size, 0, none⟩) (Nat.le_refl _) (.int .i64 0)).setCell (p := ⟨X.heap.size, 1, none⟩) (Nat.le_refl _) (.string ⟨#[]⟩))
  have q0 := k2.cell 0
  have q1 := k2.cell 1
  simp only [List.getElem?_toArray, List.getElem?_cons_zero, List.getElem?_cons_succ, List.setIfInBounds_toArray, List.set_cons_zero, List.set_cons_succ] at  q0 q1 a0 a1
  clear k1 k2 HRC HB
  go_wp2_with fail
  generalize (((w1.alloc (.cells #[.int .i64 0, .string ⟨#[]⟩] 28)).setCell ⟨X.heap.size, 0, none⟩ (.int .i64 0)).setCell ⟨X.heap.size, 1, none⟩ (.string ⟨#[]⟩)) = W at *
  exact bodyPost_ret (v := .tuple #[.agg #[.int .i64 0, .string ⟨#[]⟩], .string ⟨#[]⟩, .int .i64 1]) (by simp [results, Try.results42, go_sem, q0, q1]) rfl ⟨rfl, unhide HBB⟩
set_option maxRecDepth 100000 in
set_option maxHeartbeats 4000000 in
theorem RedoNQ_at (X : World) : Calls Try.prog 43 #[.pointer none] X fun y Y => y = .returned (.tuple #[.agg #[.int .i64 0, .string ⟨#[]⟩], .string ⟨#[]⟩, .int .i64 1]) ∧ Below X.heap.size X Y := by
  have HB := hide ((Below.refl X.heap.size X).alloc (Nat.le_refl _) (.cells #[.int .i64 0, .string ⟨#[]⟩] 28))
  have HRC := hide (Cls.new X 28 #[.int .i64 0, .string ⟨#[]⟩])
  go_enter Try.func43, Try.ntmps43
  go_upto_region 1 with fail
  generalize X.alloc (.cells #[.int .i64 0, .string ⟨#[]⟩] 28) = X1 at *
  have HC := hide (busyNQ_at X1)
  go_wp2_with fail
  refine (unhide HC).mono ?_
  rintro y w1 ⟨rfl, rfl⟩
  dsimp only
  clear HC
  have k1 := (unhide HRC).alloc (.cells #[.int .i64 0, .string ⟨#[]⟩] 28)
  have a0 := k1.cell 0
  have a1 := k1.cell 1
  have f0 := k1.frozen 0
  have f1 := k1.frozen 1
  have k2 := (k1.set 0 (.int .i64 0)).set 1 (.string ⟨#[]⟩)
  have HBB := hide ((((unhide HB).alloc (B := X.heap.size) (unhide HB).size (.cells #[.int .i64 0, .string ⟨#[]⟩] 28)).setCell (p := ⟨X.heap.size, 0, none⟩) (Nat.le_refl _) (.int .i64 0)).setCell (p := ⟨X.heap.size, 1, none⟩) (Nat.le_refl _) (.string ⟨#[]⟩))
  have q0 := k2.cell 0
  have q1 := k2.cell 1
  simp only [List.getElem?_toArray, List.getElem?_cons_zero, List.getElem?_cons_succ, List.setIfInBounds_toArray, List.set_cons_zero, List.set_cons_succ] at  q0 q1 a0 a1
  clear k1 k2 HRC HB
  go_wp2_with fail
  generalize (((w1.alloc (.cells #[.int .i64 0, .string ⟨#[]⟩] 28)).setCell ⟨X.heap.size, 0, none⟩ (.int .i64 0)).setCell ⟨X.heap.size, 1, none⟩ (.string ⟨#[]⟩)) = W at *
  exact bodyPost_ret (v := .tuple #[.agg #[.int .i64 0, .string ⟨#[]⟩], .string ⟨#[]⟩, .int .i64 1]) (by simp [results, Try.results43, go_sem, q0, q1]) rfl ⟨rfl, unhide HBB⟩
set_option maxRecDepth 100000 in
set_option maxHeartbeats 4000000 in
theorem NowNQ_at (X : World) : Calls Try.prog 23 #[.pointer none] X fun y Y => y = .returned (.agg #[.int .i64 0, .string ⟨#[]⟩]) ∧ Below X.heap.size X Y := by
  have HB := hide ((Below.refl X.heap.size X).alloc (Nat.le_refl _) (.cells #[.int .i64 0, .string ⟨#[]⟩] 28))
  have HRC := hide (Cls.new X 28 #[.int .i64 0, .string ⟨#[]⟩])
  go_enter Try.func23, Try.ntmps23
  go_upto_region 1 with fail
  generalize X.alloc (.cells #[.int .i64 0, .string ⟨#[]⟩] 28) = X1 at *
  have k1 := (unhide HRC).alloc (.cells #[.int .i64 0, .string ⟨#[]⟩] 28)
  have a0 := k1.cell 0
  have a1 := k1.cell 1
  have f0 := k1.frozen 0
  have f1 := k1.frozen 1
  have k2 := (k1.set 0 (.int .i64 0)).set 1 (.string ⟨#[]⟩)
  have HBB := hide ((((unhide HB).alloc (B := X.heap.size) (unhide HB).size (.cells #[.int .i64 0, .string ⟨#[]⟩] 28)).setCell (p := ⟨X.heap.size, 0, none⟩) (Nat.le_refl _) (.int .i64 0)).setCell (p := ⟨X.heap.size, 1, none⟩) (Nat.le_refl _) (.string ⟨#[]⟩))
  have q0 := k2.cell 0
  have q1 := k2.cell 1
  simp only [List.getElem?_toArray, List.getElem?_cons_zero, List.getElem?_cons_succ, List.setIfInBounds_toArray, List.set_cons_zero, List.set_cons_succ] at  q0 q1 a0 a1
  clear k1 k2 HRC HB
  go_wp2_with fail
  generalize (((X1.alloc (.cells #[.int .i64 0, .string ⟨#[]⟩] 28)).setCell ⟨X.heap.size, 0, none⟩ (.int .i64 0)).setCell ⟨X.heap.size, 1, none⟩ (.string ⟨#[]⟩)) = W at *
  exact bodyPost_ret (v := .agg #[.int .i64 0, .string ⟨#[]⟩]) (by simp [results, Try.results23, go_sem, q0, q1]) rfl ⟨rfl, unhide HBB⟩
theorem grB {F : Nat → Prop} {X Y : World} (b : Below X.heap.size X Y) : Gr F X F Y := ⟨KpF.of b, fun _ e => .inl e⟩
theorem DoQ_at (X : World) (F : Nat → Prop) (g : Nat) (p : Pa Int) (h : PsQ X F g (mpQ p)) (hok : OkP p) (x : Int) (w : ByteArray) (hw : w.size ≤ 281474976710656) :
    Calls Try.prog 41 #[.pointer (some ⟨g, 0, none⟩), .agg #[.int .i64 x, .string sS], .string w] X fun y Y => y = .returned (.int .i64 0) ∧ ∃ G, PsQ Y G g (mpQ (doP p x w)) ∧ Gr F X G Y := by
  rw [← mpQ_do]
  cases ho : (mpQ p).o with
  | none => exact Do0Q_at X F g (mpQ p) h (x, sS) w ho hw (mpQ_ok hok).bl
  | some y => obtain ⟨y, d⟩ := y; exact Do1Q_at X F g (mpQ p) h (x, sS) w y d ho
theorem UndoQ_at (X : World) (F : Nat → Prop) (g : Nat) (p : Pa Int) (h : PsQ X F g (mpQ p)) (hok : OkP p) :
    Calls Try.prog 42 #[.pointer (some ⟨g, 0, none⟩)] X fun y Y => y = .returned (.tuple #[.agg #[.int .i64 (anQ (undoP p).2.1).1, .string (anQ (undoP p).2.1).2], .string (anW (undoP p).2.1), .int .i64 (undoP p).2.2]) ∧ ∃ G, PsQ Y G g (mpQ (undoP p).1) ∧ Gr F X G Y := by
  by_cases ho : p.o.isSome = true
  · rw [undoP_some ho]
    refine (Undo2Q_at X F g (mpQ p) h (by simpa [mpQ] using ho)).mono ?_
    rintro y Y ⟨rfl, b⟩
    exact ⟨rfl, F, h.below b, grB b⟩
  · have ho : p.o = none := by simpa using ho
    have ho2 : (mpQ p).o = none := by simp [mpQ, ho]
    rcases list_end p.b with hb | ⟨Q, x, hb⟩
    · rw [undoP_nil ho hb]
      exact Undo0Q_at X F g (mpQ p) h ho2 (by simp [mpQ, hb])
    · have e := (mpQ_undo p).1
      rw [undoP_app ho2 (Q := Q.map mq) (x := mq x) (by simp [mpQ, hb])] at e
      rw [← e, undoP_app ho hb]
      have hl : (Q ++ [x]).length ≤ 4096 := hb ▸ hok.bl
      rw [List.length_append] at hl
      exact Undo1Q_at X F g (mpQ p) h ho2 (Q.map mq) (x.1, sS) x.2 (by simp [mpQ, hb, mq]) (mpQ_ok hok).al (by simp at hl ⊢; omega)
theorem RedoQ_at (X : World) (F : Nat → Prop) (g : Nat) (p : Pa Int) (h : PsQ X F g (mpQ p)) (hok : OkP p) :
    Calls Try.prog 43 #[.pointer (some ⟨g, 0, none⟩)] X fun y Y => y = .returned (.tuple #[.agg #[.int .i64 (anQ (redoP p).2.1).1, .string (anQ (redoP p).2.1).2], .string (anW (redoP p).2.1), .int .i64 (redoP p).2.2]) ∧ ∃ G, PsQ Y G g (mpQ (redoP p).1) ∧ Gr F X G Y := by
  by_cases ho : p.o.isSome = true
  · rw [redoP_some ho]
    refine (Redo2Q_at X F g (mpQ p) h (by simpa [mpQ] using ho)).mono ?_
    rintro y Y ⟨rfl, b⟩
    exact ⟨rfl, F, h.below b, grB b⟩
  · have ho : p.o = none := by simpa using ho
    have ho2 : (mpQ p).o = none := by simp [mpQ, ho]
    rcases list_end p.a with hb | ⟨Q, x, hb⟩
    · rw [redoP_nil ho hb]
      exact Redo0Q_at X F g (mpQ p) h ho2 (by simp [mpQ, hb])
    · have e := (mpQ_redo p).1
      rw [redoP_app ho2 (Q := Q.map mq) (x := mq x) (by simp [mpQ, hb])] at e
      rw [← e, redoP_app ho hb]
      have hl : (Q ++ [x]).length ≤ 4096 := hb ▸ hok.al
      rw [List.length_append] at hl
      exact Redo1Q_at X F g (mpQ p) h ho2 (Q.map mq) (x.1, sS) x.2 (by simp [mpQ, hb, mq]) (mpQ_ok hok).bl (by simp at hl ⊢; omega)
theorem BeginQ_at (X : World) (F : Nat → Prop) (g : Nat) (p : Pa Int) (h : PsQ X F g (mpQ p)) (w : ByteArray) (hw : w.size ≤ 281474976710656) :
    Calls Try.prog 44 #[.pointer (some ⟨g, 0, none⟩), .string w] X fun y Y => y = .returned (.int .i64 (beginP p w).2) ∧ ∃ G, PsQ Y G g (mpQ (beginP p w).1) ∧ Gr F X G Y := by
  have e := mpQ_begin p w
  rw [← e.1, ← e.2]
  by_cases ho : (mpQ p).o.isSome = true
  · have e : beginP (mpQ p) w = (mpQ p, 171) := by
      unfold beginP
      cases hp : (mpQ p).o with
      | none => rw [hp] at ho; cases ho
      | some _ => rfl
    rw [e]
    refine (Begin2Q_at X F g (mpQ p) h ho w).mono ?_
    rintro y Y ⟨rfl, rfl⟩
    exact ⟨rfl, F, h, Gr.refl _ _⟩
  · have ho : (mpQ p).o = none := by simpa using ho
    have e : (beginP (mpQ p) w).2 = 0 := by unfold beginP; rw [ho]
    rw [e]
    exact Begin0Q_at X F g (mpQ p) h w ho hw
theorem ForgetQ_at (X : World) (F : Nat → Prop) (g : Nat) (p : Pa Int) (h : PsQ X F g (mpQ p)) :
    Calls Try.prog 46 #[.pointer (some ⟨g, 0, none⟩)] X fun y Y => y = .returned (.int .i64 (forgetP p).2) ∧ ∃ G, PsQ Y G g (mpQ (forgetP p).1) ∧ Gr F X G Y := by
  have e := mpQ_forget p
  rw [← e.1, ← e.2]
  by_cases ho : (mpQ p).o.isSome = true
  · have e : forgetP (mpQ p) = (mpQ p, 171) := by
      unfold forgetP
      cases hp : (mpQ p).o with
      | none => rw [hp] at ho; cases ho
      | some _ => rfl
    rw [e]
    refine (Forget2Q_at X F g (mpQ p) h ho).mono ?_
    rintro y Y ⟨rfl, rfl⟩
    exact ⟨rfl, F, h, Gr.refl _ _⟩
  · have ho : (mpQ p).o = none := by simpa using ho
    have e : (forgetP (mpQ p)).2 = 0 := by unfold forgetP; rw [ho]
    rw [e]
    exact Forget0Q_at X F g (mpQ p) h ho
theorem EndQ_at (X : World) (F : Nat → Prop) (g : Nat) (p : Pa Int) (h : PsQ X F g (mpQ p)) (hok : OkP p) :
    Calls Try.prog 45 #[.pointer (some ⟨g, 0, none⟩)] X fun y Y => y = .returned (.int .i64 (endP p).2) ∧ ∃ G, PsQ Y G g (mpQ (endP p).1) ∧ Gr F X G Y := by
  have e := mpQ_end p
  rw [← e.1, ← e.2]
  cases ho : (mpQ p).o with
  | none =>
    have e : endP (mpQ p) = (mpQ p, 171) := by unfold endP; rw [ho]
    rw [e]
    refine (End2Q_at X F g (mpQ p) h ho).mono ?_
    rintro y Y ⟨rfl, rfl⟩
    exact ⟨rfl, F, h, Gr.refl _ _⟩
  | some y =>
    obtain ⟨x, d⟩ := y
    have e : (endP (mpQ p)).2 = 0 := by unfold endP; rw [ho]
    rw [e]
    cases d with
    | false => exact EndFalseQ_at X F g (mpQ p) h x ho
    | true => exact EndTrueQ_at X F g (mpQ p) h x ho (mpQ_ok hok).bl
theorem RDoA_at (X : World) (D : Nat → Prop) (c : Array Value) (p : Pa Int) (h : IsD X D c p) (hok : OkP p) (x : Int) (w : ByteArray) : Calls Try.prog 28 #[.agg c, .int .i64 x, .string w] X fun y Y => ∃ c' D', y = .returned (.tuple #[.agg c', .int .i64 0]) ∧ IsD Y D' c' (doP p x w) ∧ (∀ i, D' i → D i ∨ X.heap.size ≤ i) ∧ Below X.heap.size X Y := by
  cases ho : p.o with
  | none => exact RDo0_at X D c p h hok x w ho
  | some y => obtain ⟨y, d⟩ := y; exact RDo1_at X D c p h x w y d ho
theorem RUndoA_at (X : World) (D : Nat → Prop) (c : Array Value) (p : Pa Int) (h : IsD X D c p) (hok : OkP p) : Calls Try.prog 30 #[.agg c] X fun y Y => ∃ c' D', y = .returned (.tuple #[.agg c', .agg #[.int .i64 (anS (undoP p).2.1), .string (anW (undoP p).2.1)], .int .i64 (undoP p).2.2]) ∧ IsD Y D' c' (undoP p).1 ∧ (∀ i, D' i → D i ∨ X.heap.size ≤ i) ∧ Below X.heap.size X Y := by
  by_cases ho : p.o.isSome = true
  · rw [undoP_some ho]
    exact RUndo2_at X D c p h ho
  · have ho2 : p.o = none := by simpa using ho
    have ho : p.o.isSome = false := by simpa using ho
    rcases list_end p.b with hb | ⟨Q, x, hb⟩
    · rw [undoP_nil ho2 hb]
      exact RUndo0_at X D c p h ho hb
    · rw [undoP_app ho2 hb]
      have hl : (Q ++ [x]).length = p.b.length := by rw [hb]
      rw [List.length_append] at hl
      have hq := hok.l
      have hq2 := hok.m1
      simp at hl
      exact RUndo1_at X D c p h ho2 Q x hb (by omega) (by omega)
theorem RRedoA_at (X : World) (D : Nat → Prop) (c : Array Value) (p : Pa Int) (h : IsD X D c p) (hok : OkP p) : Calls Try.prog 32 #[.agg c] X fun y Y => ∃ c' D', y = .returned (.tuple #[.agg c', .agg #[.int .i64 (anS (redoP p).2.1), .string (anW (redoP p).2.1)], .int .i64 (redoP p).2.2]) ∧ IsD Y D' c' (redoP p).1 ∧ (∀ i, D' i → D i ∨ X.heap.size ≤ i) ∧ Below X.heap.size X Y := by
  by_cases ho : p.o.isSome = true
  · rw [redoP_some ho]
    exact RRedo2_at X D c p h ho
  · have ho2 : p.o = none := by simpa using ho
    have ho : p.o.isSome = false := by simpa using ho
    rcases list_end p.a with hb | ⟨Q, x, hb⟩
    · rw [redoP_nil ho2 hb]
      exact RRedo0_at X D c p h ho hb
    · rw [redoP_app ho2 hb]
      have hl : (Q ++ [x]).length = p.a.length := by rw [hb]
      rw [List.length_append] at hl
      have hq := hok.l
      have hq2 := hok.m1
      simp at hl
      exact RRedo1_at X D c p h ho2 Q x hb (by omega) (by omega)
theorem RBeginA_at (X : World) (D : Nat → Prop) (c : Array Value) (p : Pa Int) (h : IsD X D c p) (_hok : OkP p) (w : ByteArray) : Calls Try.prog 34 #[.agg c, .string w] X fun y Y => ∃ c' D', y = .returned (.tuple #[.agg c', .int .i64 (beginP p w).2]) ∧ IsD Y D' c' (beginP p w).1 ∧ (∀ i, D' i → D i ∨ X.heap.size ≤ i) ∧ Below X.heap.size X Y := by
  by_cases ho : p.o.isSome = true
  · have e : beginP p w = (p, 171) := by
      unfold beginP
      cases hp : p.o with
      | none => rw [hp] at ho; cases ho
      | some _ => rfl
    rw [e]
    exact RBegin2_at X D c p h w ho
  · have ho : p.o = none := by simpa using ho
    have e : (beginP p w).2 = 0 := by unfold beginP; rw [ho]
    rw [e]
    exact RBegin0_at X D c p h w ho
theorem RForgetA_at (X : World) (D : Nat → Prop) (c : Array Value) (p : Pa Int) (h : IsD X D c p) (_hok : OkP p) : Calls Try.prog 38 #[.agg c] X fun y Y => ∃ c' D', y = .returned (.tuple #[.agg c', .int .i64 (forgetP p).2]) ∧ IsD Y D' c' (forgetP p).1 ∧ (∀ i, D' i → D i ∨ X.heap.size ≤ i) ∧ Below X.heap.size X Y := by
  by_cases ho : p.o.isSome = true
  · have e : forgetP p = (p, 171) := by
      unfold forgetP
      cases hp : p.o with
      | none => rw [hp] at ho; cases ho
      | some _ => rfl
    rw [e]
    exact RForget2_at X D c p h ho
  · have ho : p.o = none := by simpa using ho
    have e : (forgetP p).2 = 0 := by unfold forgetP; rw [ho]
    rw [e]
    exact RForget0_at X D c p h ho
theorem REndA_at (X : World) (D : Nat → Prop) (c : Array Value) (p : Pa Int) (h : IsD X D c p) (hok : OkP p) : Calls Try.prog 36 #[.agg c] X fun y Y => ∃ c' D', y = .returned (.tuple #[.agg c', .int .i64 (endP p).2]) ∧ IsD Y D' c' (endP p).1 ∧ (∀ i, D' i → D i ∨ X.heap.size ≤ i) ∧ Below X.heap.size X Y := by
  cases ho : p.o with
  | none =>
    have e : endP p = (p, 171) := by unfold endP; rw [ho]
    rw [e]
    exact REnd2_at X D c p h (by rw [ho]; rfl)
  | some y =>
    obtain ⟨x, d⟩ := y
    have e : (endP p).2 = 0 := by unfold endP; rw [ho]
    rw [e]
    cases d with
    | false => exact REndFalse_at X D c p h hok x ho
    | true => exact REndTrue_at X D c p h hok x ho
theorem IsD.form {X : World} {D : Nat → Prop} {c : Array Value} {p : Pa Int} (h : IsD X D c p) : ∃ bA bN bC aA aN aC oS w0 f0 d0, c = #[.bool false, .int .i64 p.s, .int .i64 p.m, .slice bA bN bC, .slice aA aN aC, .bool oS, .string w0, .int .i64 f0, .bool d0] := by
  obtain ⟨vb, va, kb, ka, w, f, d, rfl, h1, h2, h3, h4⟩ := h
  obtain ⟨bA, bC, rfl⟩ := h1.val
  obtain ⟨aA, aC, rfl⟩ := h2.val
  exact ⟨_, _, _, _, _, _, _, _, _, _, rfl⟩
end Go.Proofs.Ytdemfejladepjaa
