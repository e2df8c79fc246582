/- Layer 17: play: a script on a past of numbers. Written by wip/tools/puc.py. · Layer 17, plain: what an End, a Do, an Undo and a Redo make of a past; lists of words beside a past. -/
import Derived.Test.YthifdfjpfmhcpaaMg20
import Derived.Test.YthifdfjpfmhcpaaMg21
import Derived.Test.YthifdfjpfmhcpaaMg10

section
namespace Go.Proofs.Ythifdfjpfmhcpaa
open Go.ChangeShapes Go.WideShapes Go.ChangeAt Go.RowKit
attribute [local go_sem] Oper.semAt_some

set_option maxRecDepth 100000 in
set_option maxHeartbeats 8000000 in
theorem playE_at (s m : Int) (v : Value) (w : World) (h : ¬ (0 ≤ m ∧ m ≤ 4096)) :
    Calls Try.prog 15 #[.int .i64 s, .int .i64 m, v] w fun y Y => y = .returned (.pointer none) ∧ Y = w := by
  have HC := hide (NewEI_at s m w h)
  clear h
  go_enter Try.func15, Try.ntmps15
  go_wp2_with fail
  refine (unhide HC).mono ?_
  rintro y w1 ⟨rfl, rfl⟩
  dsimp only
  clear HC
  go_wp2_with fail
  exact bodyPost_ret (results_tmp rfl _ _ _) rfl ⟨rfl, rfl⟩
set_option maxRecDepth 100000 in
set_option maxHeartbeats 8000000 in
theorem play_at (s m : Int) (a : Option Addr) (c : Nat) (d : List Oq) (w : World) (h : 0 ≤ m ∧ m ≤ 4096) (ho : IsQ w a d) (hl : d.length ≤ 140737488355328) (hw : ∀ o ∈ d, o.w.size ≤ 281474976710656) :
    Calls Try.prog 15 #[.int .i64 s, .int .i64 m, .slice a d.length c] w fun y Y => ∃ g G, y = .returned (.pointer (some ⟨g, 0, none⟩)) ∧ PsI Y G g (plP s m d) ∧ (∀ i, G i → w.heap.size ≤ i) ∧ Below w.heap.size w Y := by
  have HC := hide (NewI_at s m w h)
  have HO := hide fun (X : World) (hx : Below w.heap.size w X) => ho.below hx (Nat.le_refl _)
  have HOK := hide fun (k : Nat) => plP_ok s m h.1 h.2 (d.take k)
  have HWS : Hid (∀ k, k < d.length → (d.getD k oqZ).w.size ≤ 281474976710656) := hide fun k hk => hw _ (by simp [List.getD, List.getElem?_eq_getElem hk])
  have HPN := hide fun (k : Nat) (hk : k < d.length) => plP_take s m d hk
  have HPL : Hid (plP s m (d.take d.length) = plP s m d) := hide (by rw [List.take_length])
  have HP0 : Hid (plP s m (d.take 0) = ⟨s, m, [], [], none⟩) := hide rfl
  clear h ho hw
  generalize plP s m d = PD at *
  generalize plP s m = Pf at *
  go_enter Try.func15, Try.ntmps15
  go_wp2_with fail
  refine (unhide HC).mono ?_
  rintro y w0 ⟨g, F0, rfl, i0, l0, x0⟩
  dsimp only
  have HI0 := hide i0
  have HB0 := hide (And.intro x0 l0)
  clear HC i0 x0 l0
  go_wp2_with fail
  go_loopw [10, 25] (fun v10 v25 wx => (∃ z, v10 = z) ∧ (∃ k : Nat, v25 = .int .i64 (k : Int) ∧ k ≤ d.length ∧ ∃ G, Hid (PsI wx G g (Pf (d.take k))) ∧ Hid (Below w.heap.size w wx ∧ ∀ i, G i → w.heap.size ≤ i))) (fun _ v25 _ => d.length - (intOf v25).toNat)
  case atStart => exact ⟨⟨_, rfl⟩, ⟨0, rfl, Nat.zero_le _, F0, hide (by rw [unhide HP0]; exact unhide HI0), HB0⟩⟩
  case round =>
    obtain ⟨⟨z1, rfl⟩, ⟨k, rfl, hk, G, HI, HB⟩⟩ := hrel
    clear HI0 HB0 HP0
    by_cases hlt : k < d.length
    · have u1 : decide ((k : Int) < (d.length : Int)) = true := decide_eq_true (by omega)
      obtain ⟨ga, off, rfl, hga, c0, c1, c2⟩ := (unhide HO wr (unhide HB).1).three hlt
      have hws := unhide HWS k hlt
      have hnx := unhide HPN k hlt
      have hok := unhide HOK k
      have wk : wrap64 ((k : Int) + 1) = ((k + 1 : Nat) : Int) := by unfold wrap64; omega
      have hki : (k : Int) < (d.length : Int) := by omega
      clear HO HWS HPN HOK HPL
      generalize d.getD k oqZ = q at *
      obtain ⟨qk, qn, qw⟩ := q
      dsimp only at c0 c1 c2 hws
      have bA := (Below.refl wr.heap.size wr).alloc (Nat.le_refl _) (.cells #[.int .i64 qk, .int .i64 qn, .string qw] 68)
      have HIA := hide ((unhide HI).below bA)
      have HBA := hide (And.intro ((unhide HB).1.trans (bA.mono (unhide HB).1.size)) (unhide HB).2)
      have kA := Cls.new wr 68 #[.int .i64 qk, .int .i64 qn, .string qw]
      have HKA := hide kA
      clear HI HB bA kA
      go_upto_region 7 with fail
      generalize wr.alloc (.cells #[.int .i64 qk, .int .i64 qn, .string qw] 68) = wa at *
      have a0 : wa.cell? ⟨wr.heap.size, 0, none⟩ = some (.int .i64 qk) := ((unhide HKA).cell 0).trans rfl
      have a1 : wa.cell? ⟨wr.heap.size, 1, none⟩ = some (.int .i64 qn) := ((unhide HKA).cell 1).trans rfl
      have a2 : wa.cell? ⟨wr.heap.size, 2, none⟩ = some (.string qw) := ((unhide HKA).cell 2).trans rfl
      clear c0 c1 c2 HKA hga
      generalize hP : Pf (d.take k) = P at *
      clear hP
      have HNX := hide hnx
      clear hnx
      by_cases q1 : qk = 1
      · subst q1
        have HC := hide (DoA_at wa G g P (unhide HIA) hok qn qw hws)
        have hst : Pf (d.take (k + 1)) = _ := (unhide HNX).trans rfl
        clear HNX hws hok HIA
        go_wp2_with fail
        refine (unhide HC).mono ?_
        rintro y w1 ⟨rfl, G1, i1, g1⟩
        dsimp only
        have HI1 : Hid (PsI w1 G1 g (Pf (d.take (k + 1)))) := hide (by rw [hst]; exact i1)
        have HB1 := hide (gr_on (Nat.le_refl _) (unhide HBA).1 (unhide HBA).2 g1)
        clear HC i1 g1 hst HBA a0 a1 a2
        go_wp2_with fail
        go_roundw
        case rel => exact ⟨⟨_, rfl⟩, ⟨k + 1, by first | rfl | rw [wk], hlt, G1, HI1, HB1⟩⟩
        case measure => simp [intOf]; omega
      have t1 : (qk == 1) = false := by simpa using q1
      by_cases q2 : qk = 2
      · subst q2
        have HC := hide (UndoA_at wa G g P (unhide HIA) hok)
        have hst : Pf (d.take (k + 1)) = _ := (unhide HNX).trans rfl
        clear HNX hws hok HIA
        go_wp2_with fail
        refine (unhide HC).mono ?_
        rintro y w1 ⟨rfl, G1, i1, g1⟩
        dsimp only
        have HI1 : Hid (PsI w1 G1 g (Pf (d.take (k + 1)))) := hide (by rw [hst]; exact i1)
        have HB1 := hide (gr_on (Nat.le_refl _) (unhide HBA).1 (unhide HBA).2 g1)
        clear HC i1 g1 hst HBA a0 a1 a2
        go_wp2_with fail
        go_roundw
        case rel => exact ⟨⟨_, rfl⟩, ⟨k + 1, by first | rfl | rw [wk], hlt, G1, HI1, HB1⟩⟩
        case measure => simp [intOf]; omega
      have t2 : (qk == 2) = false := by simpa using q2
      by_cases q3 : qk = 3
      · subst q3
        have HC := hide (RedoA_at wa G g P (unhide HIA) hok)
        have hst : Pf (d.take (k + 1)) = _ := (unhide HNX).trans rfl
        clear HNX hws hok HIA
        go_wp2_with fail
        refine (unhide HC).mono ?_
        rintro y w1 ⟨rfl, G1, i1, g1⟩
        dsimp only
        have HI1 : Hid (PsI w1 G1 g (Pf (d.take (k + 1)))) := hide (by rw [hst]; exact i1)
        have HB1 := hide (gr_on (Nat.le_refl _) (unhide HBA).1 (unhide HBA).2 g1)
        clear HC i1 g1 hst HBA a0 a1 a2
        go_wp2_with fail
        go_roundw
        case rel => exact ⟨⟨_, rfl⟩, ⟨k + 1, by first | rfl | rw [wk], hlt, G1, HI1, HB1⟩⟩
        case measure => simp [intOf]; omega
      have t3 : (qk == 3) = false := by simpa using q3
      by_cases q4 : qk = 4
      · subst q4
        have HC := hide (BeginA_at wa G g P (unhide HIA) qw hws)
        have hst : Pf (d.take (k + 1)) = _ := (unhide HNX).trans rfl
        clear HNX hws hok HIA
        go_wp2_with fail
        refine (unhide HC).mono ?_
        rintro y w1 ⟨rfl, G1, i1, g1⟩
        dsimp only
        have HI1 : Hid (PsI w1 G1 g (Pf (d.take (k + 1)))) := hide (by rw [hst]; exact i1)
        have HB1 := hide (gr_on (Nat.le_refl _) (unhide HBA).1 (unhide HBA).2 g1)
        clear HC i1 g1 hst HBA a0 a1 a2
        go_wp2_with fail
        go_roundw
        case rel => exact ⟨⟨_, rfl⟩, ⟨k + 1, by first | rfl | rw [wk], hlt, G1, HI1, HB1⟩⟩
        case measure => simp [intOf]; omega
      have t4 : (qk == 4) = false := by simpa using q4
      by_cases q5 : qk = 5
      · subst q5
        have HC := hide (EndA_at wa G g P (unhide HIA) hok)
        have hst : Pf (d.take (k + 1)) = _ := (unhide HNX).trans rfl
        clear HNX hws hok HIA
        go_wp2_with fail
        refine (unhide HC).mono ?_
        rintro y w1 ⟨rfl, G1, i1, g1⟩
        dsimp only
        have HI1 : Hid (PsI w1 G1 g (Pf (d.take (k + 1)))) := hide (by rw [hst]; exact i1)
        have HB1 := hide (gr_on (Nat.le_refl _) (unhide HBA).1 (unhide HBA).2 g1)
        clear HC i1 g1 hst HBA a0 a1 a2
        go_wp2_with fail
        go_roundw
        case rel => exact ⟨⟨_, rfl⟩, ⟨k + 1, by first | rfl | rw [wk], hlt, G1, HI1, HB1⟩⟩
        case measure => simp [intOf]; omega
      have t5 : (qk == 5) = false := by simpa using q5
      by_cases q6 : qk = 6
      · subst q6
        have HC := hide (ForgetA_at wa G g P (unhide HIA))
        have hst : Pf (d.take (k + 1)) = _ := (unhide HNX).trans rfl
        clear HNX hws hok HIA
        go_wp2_with fail
        refine (unhide HC).mono ?_
        rintro y w1 ⟨rfl, G1, i1, g1⟩
        dsimp only
        have HI1 : Hid (PsI w1 G1 g (Pf (d.take (k + 1)))) := hide (by rw [hst]; exact i1)
        have HB1 := hide (gr_on (Nat.le_refl _) (unhide HBA).1 (unhide HBA).2 g1)
        clear HC i1 g1 hst HBA a0 a1 a2
        go_wp2_with fail
        go_roundw
        case rel => exact ⟨⟨_, rfl⟩, ⟨k + 1, by first | rfl | rw [wk], hlt, G1, HI1, HB1⟩⟩
        case measure => simp [intOf]; omega
      have t6 : (qk == 6) = false := by simpa using q6
      have hst : Pf (d.take (k + 1)) = P := by rw [unhide HNX]; unfold stP; simp [q1, q2, q3, q4, q5, q6]
      have HI1 : Hid (PsI wa G g (Pf (d.take (k + 1)))) := hide (by rw [hst]; exact unhide HIA)
      clear HNX hws hok HIA hst q1 q2 q3 q4 q5 q6
      go_wp2_with fail
      go_roundw
      case rel => exact ⟨⟨_, rfl⟩, ⟨k + 1, by first | rfl | rw [wk], hlt, G, HI1, HBA⟩⟩
      case measure => simp [intOf]; omega
    · obtain rfl : k = d.length := by omega
      have u1 : decide ((d.length : Int) < (d.length : Int)) = false := decide_eq_false (by omega)
      have HIE : Hid (PsI wr G g PD) := hide (by rw [← unhide HPL]; exact unhide HI)
      clear HO HWS HPN HOK HPL HI
      go_wp2_with fail
      exact bodyPost_ret (results_tmp rfl _ _ _) rfl ⟨_, _, rfl, unhide HIE, (unhide HB).2, (unhide HB).1⟩
end Go.Proofs.Ythifdfjpfmhcpaa
end

section
namespace Go.Proofs.Ythifdfjpfmhcpaa
open Go.ChangeShapes Go.WideShapes Go.ChangeAt Go.RowKit

theorem RS.on {F G : Nat → Prop} {X Y : World} {v : Value} {l : List ByteArray} {k : Option Nat} (h : RS X v l k) (hk : ∀ i, k = some i → ¬ F i) (g : Gr F X G Y) : RS Y v l k ∧ ∀ i, k = some i → ¬ G i :=
  ⟨h.kpf g.kp hk, fun i e => g.out (RA.lt h i e) (hk i e)⟩
theorem RI.on {F G : Nat → Prop} {X Y : World} {v : Value} {l : List Int} {k : Option Nat} (h : RI X v l k) (hk : ∀ i, k = some i → ¬ F i) (g : Gr F X G Y) : RI Y v l k ∧ ∀ i, k = some i → ¬ G i :=
  ⟨h.kpf g.kp hk, fun i e => g.out (RA.lt h i e) (hk i e)⟩
theorem endP_none {α : Type} (p : Pa α) : (endP p).1.o = none := by
  unfold endP
  split
  · assumption
  · rfl
theorem endP_m {α : Type} (p : Pa α) : (endP p).1.m = p.m := by
  unfold endP
  split <;> rfl
theorem stP_m (p : Pa Int) (o : Oq) : (stP p o).m = p.m := by
  have h1 : (doP p o.n o.w).m = p.m := by unfold doP; split <;> rfl
  have h2 : (undoP p).1.m = p.m := by
    unfold undoP
    split
    · rfl
    · split <;> rfl
  have h3 : (redoP p).1.m = p.m := by
    unfold redoP
    split
    · rfl
    · split <;> rfl
  have h4 : (beginP p o.w).1.m = p.m := by unfold beginP; split <;> rfl
  have h6 : (forgetP p).1.m = p.m := by unfold forgetP; split <;> rfl
  unfold stP
  repeat' split
  all_goals first | exact h1 | exact h2 | exact h3 | exact h4 | exact endP_m p | exact h6 | rfl
theorem foldP_m : ∀ (d : List Oq) (p : Pa Int), (d.foldl stP p).m = p.m
  | [], _ => rfl
  | o :: r, p => (foldP_m r (stP p o)).trans (stP_m p o)
theorem plP_m (s m : Int) (d : List Oq) : (plP s m d).m = m := foldP_m d _
/-- the state in which the laws begin: behind a script, outside of a group -/
theorem begP (m : Int) (h0 : 0 ≤ m) (h1 : m ≤ 4096) (d : List Oq) : ∃ P : Pa Int, P = (endP (plP 0 m d)).1 ∧ OkP P ∧ P.o = none ∧ P.m = m :=
  ⟨_, rfl, (plP_ok 0 m h0 h1 d).ends, endP_none _, (endP_m _).trans (plP_m _ _ _)⟩
/-- the words behind a Do -/
theorem keep_words {α : Type} {m : Int} (hm : 0 ≤ m) (b : List (α × ByteArray)) (x : α × ByteArray) (hb : (b.length : Int) ≤ m) :
    (keepP m b x).reverse.map (·.2) = (x.2 :: b.reverse.map (·.2)).take (min (b.length + 1) m.toNat) := by
  unfold keepP
  split
  · rename_i h
    have e : m.toNat = b.length := by omega
    rw [e, Nat.min_eq_right (by omega), List.reverse_drop, List.map_take]
    simp
  · rename_i h
    rw [Nat.min_eq_left (by omega), List.take_of_length_le (by simp)]
    simp
theorem keep_last {α : Type} {m : Int} (hm : 0 < m) (b : List (α × ByteArray)) (x : α × ByteArray) (hb : (b.length : Int) ≤ m) : ∃ Q, keepP m b x = Q ++ [x] ∧ (Q.length : Int) ≤ m := by
  unfold keepP
  split
  · rename_i h
    refine ⟨b.drop 1, ?_, by rw [List.length_drop]; omega⟩
    rw [List.drop_append_of_le_length (by omega)]
  · exact ⟨b, rfl, hb⟩
theorem keep_zero {α : Type} (b : List (α × ByteArray)) (x : α × ByteArray) (hb : (b.length : Int) ≤ 0) : keepP 0 b x = [] := by
  have : b = [] := List.eq_nil_of_length_eq_zero (by omega)
  subst this
  unfold keepP
  rw [if_pos (by simp)]
  rfl
end Go.Proofs.Ythifdfjpfmhcpaa
end
