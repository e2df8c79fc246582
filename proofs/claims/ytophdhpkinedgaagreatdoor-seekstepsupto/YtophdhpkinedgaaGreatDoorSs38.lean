/- Layer 10: contracts of seek's ending, begin, Line. · The scanner in memory, and its small calls. · One step is appended to a list of the call's own. · What is broken off: End. · Contracts of the document's answer: Begins, Whole, Value, Is and Bytes of layer 1, over a []byte that lies in memory: each answers by the plain functions; they only draw, and Bytes answers in new memory. -/
import Derived.Test.YtophdhpkinedgaaGreatDoorSs37
import Derived.Test.YtophdhpkinedgaaGreatDoorSs26
import Derived.Test.YtophdhpkinedgaaGreatDoorSs04
import Derived.Laws.CopyRow
import Derived.Laws.CopyOwn
import Derived.Test.YtophdhpkinedgaaGreatDoorSs01

section
namespace Go.Proofs.YtophdhpkinedgaaGreatDoor
open Go.ChangeShapes Go.WideShapes Go.ChangeAt Go.RowKit
attribute [local go_sem] Oper.semAt_some

set_option maxRecDepth 100000 in
set_option maxHeartbeats 2000000 in
theorem endf10_at (l : List Int) (k : Int) (gk : Nat) (w : World) (hk : Cb w gk 3 (.int .i64 k)) :
    Calls Tryz.prog 91 #[weV (ofL l), .pointer (some ⟨gk, 0, none⟩)] w fun y w' => y = .returned (.bool (decide (k < endsN l))) ∧ Below w.heap.size w w' := by
  rw [weq9]
  have hz : (szL l).e = endsN l := rfl
  generalize (szL l).b = zb at *
  generalize (szL l).r = zr at *
  generalize (szL l).u = zu at *
  rw [hz]
  clear hz
  generalize strOfNums (List.take 3 l) = zh at *
  generalize strOfNums (tail3 l) = zt at *
  generalize endsN l = ze at *
  have b0 := (Below.refl w.heap.size w).alloc (Nat.le_refl _) (.cells #[.int .i64 zb, .int .i64 zr, .int .i64 zu, .int .i64 ze, .string zh, .string zt] 61)
  have g0 := push_get w (.cells #[.int .i64 zb, .int .i64 zr, .int .i64 zu, .int .i64 ze, .string zh, .string zt] 61)
  obtain ⟨c0, c1, c2, c3, c4, c5, _⟩ := cells6 g0
  have k1 := (hk.on b0).cell
  have HB := hide b0
  clear b0 g0 hk
  go_enter Tryz.func91, Tryz.ntmps91
  go_upto_region 1 with fail
  generalize w.alloc (.cells #[.int .i64 zb, .int .i64 zr, .int .i64 zu, .int .i64 ze, .string zh, .string zt] 61) = w0 at *
  go_wp2_with fail
  go_ret
  exact ⟨ret_bool rfl, unhide HB⟩
theorem bytes_of {w : World} {g : Nat} {o : Option Nd} (h : IsRo w g o) : ∀ x ∈ txtO o, 0 ≤ x ∧ x ≤ 255 := by
  obtain ⟨v, _, h2⟩ := h
  cases o with
  | none => intro x hx; cases hx
  | some t => exact IsNd.bytes h2
theorem RoVro {w : World} {g : Nat} {o : Option Nd} (h : IsRo w g o) : RoV w (.pointer (some ⟨g, 0, none⟩)) o := by
  obtain ⟨v, h1, h2⟩ := h
  exact ⟨v, Or.inr ⟨g, rfl, h1⟩, h2⟩
/-- what stands at a line's end -/
theorem end_win {T : List Int} {m : Nat} (hml : m < T.length) (hnl : isNl (T.getD m 0) = true) : nbr ((T.drop m).take (min T.length (m + 2) - m)) 0 = some (0, 0, 0, edw (T.drop m)) := by
  have he := edw_take (T.drop m) (min T.length (m + 2) - m) (by rw [List.length_drop]; omega)
  have hc : T.drop m = T.getD m 0 :: T.drop (m + 1) := by
    rw [List.drop_eq_getElem_cons hml, List.getD_eq_getElem?_getD, List.getElem?_eq_getElem hml]; rfl
  obtain ⟨q, hq⟩ : ∃ q, min T.length (m + 2) - m = q + 1 := ⟨min T.length (m + 2) - m - 1, by omega⟩
  rw [← he, hq, hc, List.take_succ_cons]
  exact nbr_end hnl
set_option maxRecDepth 100000 in
set_option maxHeartbeats 4000000 in
theorem ending10_at (g : Nat) (o : Option Nd) (k : Nat) (w : World) (h : IsRo w g o) (hk : k < (LN (txtO o)).length) (hm : (txtO o).length ≤ 268435456) (hW : Wt w) :
    Calls Tryz.prog 66 #[.pointer (some ⟨g, 0, none⟩), .int .i64 (k : Int)] w fun y w' => y = .returned (.tuple #[.int .i64 (((LN (txtO o)).getD k z4).2.2.1 : Int), .int .i64 (((LN (txtO o)).getD k z4).2.2.2 : Int)]) ∧ Below w.heap.size w w' := by
  have hb := bytes_of h
  have b0 := (Below.refl w.heap.size w).alloc (Nat.le_refl _) (.cells #[.int .i64 (k : Int)] 3)
  have k0 := Cb.new w 3 (.int .i64 (k : Int))
  obtain ⟨N, hN⟩ : ∃ N, N = (txtO o).length := ⟨_, rfl⟩
  have HR := hide fun (X : World) (hx : Below w.heap.size w X) => h.on hx
  have HW := hide fun (X : World) (hx : Below w.heap.size w X) => hW.below hx
  have HNN := hide hN
  have HN := hide (fun n => en_ln (T := txtO o) (k := k) (n := n) hk)
  have HM := hide hm
  have HY := hide hb
  have HL := hide fun (X : World) (hx : Below w.heap.size w X) => hN ▸ Len9_at g o X (h.on hx)
  have HF := hide fun (X : World) (hx : Below w.heap.size w X) (hc : Cb X w.heap.size 3 (.int .i64 (k : Int))) => First9_at (.pointer (some ⟨g, 0, none⟩)) o 91 #[.pointer (some ⟨w.heap.size, 0, none⟩)] (fun l => decide ((k : Int) < endsN l)) X (RoVro (h.on hx)) hm (hW.below hx) (enters_of Tryz.func91 (by kernel_rfl) rfl)
    (fun j Y _ hy => endf10_at _ (k : Int) w.heap.size Y (hc.on hy))
  have HB := hide fun (X : World) (hx : Below w.heap.size w X) (lo hi : Nat) (h1 : lo ≤ hi) (h2 : hi ≤ (txtO o).length) => BytesR9_at g o lo hi X (h.on hx) h1 h2 hm
  generalize hcv : (((LN (txtO o)).getD k z4).2.2.1 : Int) = cv at *
  generalize hnv : (((LN (txtO o)).getD k z4).2.2.2 : Int) = nv at *
  clear h hW hb hm hk hN hcv hnv
  go_enter Tryz.func66, Tryz.ntmps66
  go_upto_region 1 with fail
  generalize w.alloc (.cells #[.int .i64 (k : Int)] 3) = w0 at *
  go_wp2_with fail
  refine (unhide HL w0 b0).mono ?_
  rintro y w1 ⟨rfl, x1⟩
  dsimp only
  have X1 := b0.trans (x1.mono b0.size)
  have k1 := k0.on x1
  have HF1 := hide (unhide HF w1 X1 k1)
  go_wp2_with fail
  refine (unhide HF1).mono ?_
  rintro y w2 ⟨n, rfl, hn, x2⟩
  dsimp only
  have X2 := X1.trans (x2.mono (X1.size))
  obtain ⟨e1, e2⟩ := unhide HN n hn
  clear HF HF1 hn
  by_cases h0 : n < 0
  · have d0 : decide (n < 0) = true := decide_eq_true h0
    have e3 : enP (txtO o) n = ((N : Int), (N : Int)) := by unfold enP; rw [if_pos h0, unhide HNN]
    rw [e3] at e1
    have E1 := hide e1
    clear e1 e2 e3 h0
    go_wp2_with fail
    refine bodyPost_ret (results_tmp2 rfl _ _ _) rfl ?_
    refine ⟨?_, X2⟩
    have := unhide E1
    simp only [Prod.mk.injEq] at this
    rw [← this.1, ← this.2]
    rfl
  · have d0 : decide (n < 0) = false := decide_eq_false h0
    obtain ⟨m, rfl, hml, hnl⟩ := e2 (by omega)
    have e3 : enP (txtO o) ((m : Int) + 1) = ((m : Int), (m : Int) + (edw ((txtO o).drop m) : Int)) := by
      unfold enP
      rw [if_neg h0, show ((m : Int) + 1).toNat - 1 = m by omega, show (m : Int) + 1 - 1 = (m : Int) by omega]
    rw [e3] at e1
    have E1 := hide e1
    have hedw := edw_pos ((txtO o).drop m)
    have hnn := unhide HNN
    have hmm := unhide HM
    obtain ⟨d, hd⟩ : ∃ d, d = edw ((txtO o).drop m) := ⟨_, rfl⟩
    obtain ⟨hi, hhi⟩ : ∃ hi, hi = min (txtO o).length (m + 2) := ⟨_, rfl⟩
    have w1' : wrap64 (m : Int) = (m : Int) := wrap_in _ (by omega) (by omega)
    have w2' : wrap64 ((m : Int) + 2) = (m : Int) + 2 := wrap_in _ (by omega) (by omega)
    have w3' : min (N : Int) ((m : Int) + 2) = (hi : Int) := by omega
    have w4' : wrap64 ((m : Int) + (d : Int)) = (m : Int) + (d : Int) := wrap_in _ (by omega) (by omega)
    have hB := unhide HB w2 X2 m hi (by omega) (by omega)
    have hwl : (((txtO o).drop m).take (hi - m)).length ≤ 268435456 := by rw [List.length_take]; omega
    have hnb : nbr (((txtO o).drop m).take (hi - m)) 0 = some (0, 0, 0, d) := by rw [hhi, hd]; exact end_win hml hnl
    have hyb : ∀ x ∈ ((txtO o).drop m).take (hi - m), 0 ≤ x ∧ x ≤ 255 := fun x hx => unhide HY x (List.mem_of_mem_drop (List.mem_of_mem_take hx))
    generalize ((txtO o).drop m).take (hi - m) = L at *
    have HB2 := hide hB
    have HNB := hide hnb
    have HWL := hide hwl
    have HYB := hide hyb
    rw [← hd] at E1
    clear e1 e2 e3 h0 hml hnl hedw hnb hwl hyb hB hd hhi hnn hmm HB HNN
    go_wp2_with fail
    refine (unhide HB2).mono ?_
    rintro y w3 ⟨v, rfl, hv, x3⟩
    dsimp only
    have X3 := X2.trans (x3.mono X2.size)
    obtain ⟨a', c', rfl, hN'⟩ := own_isNS hv (unhide HYB) (by have := unhide HWL; omega)
    have HI := hide hN'
    clear hv hN' HB2
    go_wp2_with fail
    refine (Line_at a' c' _ 0 w3 (unhide HI).1).mono ?_
    rintro y w4 ⟨rfl, x4⟩
    dsimp only
    have X4 := X3.trans (x4.mono X3.size)
    rw [unhide HNB]
    unfold liV
    dsimp only
    go_wp2_with fail
    refine bodyPost_ret (results_tmp2 rfl _ _ _) rfl ?_
    refine ⟨?_, X4⟩
    have := unhide E1
    simp only [Prod.mk.injEq] at this
    rw [← this.1, ← this.2]
    exact congrArg Ending.returned (by simp [w1', w4'])

end Go.Proofs.YtophdhpkinedgaaGreatDoor
end

section
namespace Go.Proofs.YtophdhpkinedgaaGreatDoor
open Go.ChangeShapes Go.WideShapes Go.ChangeAt Go.RowKit

/-- a scanner at block g that holds h and was fed that many bytes -/
def Sca (w : World) (g : Nat) (h : List Int) (fed : Int) : Prop :=
  g < w.heap.size ∧ h.length ≤ 3 ∧ Lies w g 0 h ∧ (∀ i, i < 5 → w.frozen? ⟨g, i, none⟩ = false) ∧ (∀ i, i < 3 → (w.cell? ⟨g, i, none⟩).isSome = true) ∧
    w.cell? ⟨g, 3, none⟩ = some (.int .i64 (h.length : Int)) ∧ w.cell? ⟨g, 4, none⟩ = some (.int .i64 fed)
/-- nothing below B is changed but block g -/
structure Scf (B g : Nat) (w w' : World) : Prop where
  os : w'.os = w.os
  tape : w'.tape = w.tape
  output : w'.output = w.output
  size : w.heap.size ≤ w'.heap.size
  block : ∀ k, k < B → k ≠ g → w'.heap[k]? = w.heap[k]?

theorem Scf.refl (B g : Nat) (w : World) : Scf B g w w := ⟨rfl, rfl, rfl, Nat.le_refl _, fun _ _ _ => rfl⟩
theorem Scf.trans {B g : Nat} {a b c : World} (h : Scf B g a b) (k : Scf B g b c) : Scf B g a c :=
  ⟨k.os.trans h.os, k.tape.trans h.tape, k.output.trans h.output, Nat.le_trans h.size k.size, fun i hi hn => (k.block i hi hn).trans (h.block i hi hn)⟩
theorem Scf.of {B g : Nat} {a b : World} (h : Below B a b) : Scf B g a b := ⟨h.os, h.tape, h.output, h.size, fun i hi _ => h.block i hi⟩
theorem Scf.below {B g : Nat} {a b : World} (h : Scf B g a b) (hg : B ≤ g) : Below B a b := ⟨h.os, h.tape, h.output, h.size, fun i hi => h.block i hi (by omega)⟩
theorem Scf.mono {B C g : Nat} {a b : World} (h : Scf C g a b) (hB : B ≤ C) : Scf B g a b := ⟨h.os, h.tape, h.output, h.size, fun i hi hn => h.block i (by omega) hn⟩
theorem Scf.drew {B g : Nat} {a b : World} (h : Scf B g a b) : Scf B g a b.drew := ⟨h.os, h.tape, h.output, h.size, fun i hi hn => h.block i hi hn⟩
theorem Scf.drewN {B g : Nat} {a b : World} (h : Scf B g a b) (n : Nat) : Scf B g a (b.drewN n) := ⟨h.os, h.tape, h.output, h.size, fun i hi hn => h.block i hi hn⟩
theorem Sca.drewN {w : World} {g : Nat} {h : List Int} {fed : Int} (hS : Sca w g h fed) (n : Nat) : Sca (w.drewN n) g h fed := hS
theorem Sca.same {w w' : World} {g : Nat} {h : List Int} {fed : Int} (hS : Sca w g h fed) (hz : w.heap.size ≤ w'.heap.size) (hb : w'.heap[g]? = w.heap[g]?) : Sca w' g h fed := by
  have c : ∀ o, w'.cell? ⟨g, o, none⟩ = w.cell? ⟨g, o, none⟩ := fun o => World.cell?_of_block (a := ⟨g, o, none⟩) hb
  have f : ∀ o, w'.frozen? ⟨g, o, none⟩ = w.frozen? ⟨g, o, none⟩ := fun o => World.frozen?_of_block (a := ⟨g, o, none⟩) hb
  obtain ⟨hg, hle, hL, hz', hs, hc, hf⟩ := hS
  exact ⟨by omega, hle, fun i hi => by rw [c]; exact hL i hi, fun i hi => by rw [f]; exact hz' i hi, fun i hi => by rw [c]; exact hs i hi, by rw [c]; exact hc, by rw [c]; exact hf⟩
theorem Sca.below {w w' : World} {g B : Nat} {h : List Int} {fed : Int} (hS : Sca w g h fed) (hb : Below B w w') (hB : g < B) : Sca w' g h fed := hS.same hb.size (hb.block g hB)
theorem Sca.scf {w w' : World} {g f B : Nat} {h : List Int} {fed : Int} (hS : Sca w g h fed) (hb : Scf B f w w') (hB : g < B) (hn : g ≠ f) : Sca w' g h fed := hS.same hb.size (hb.block g hB hn)
theorem Sca.lt {w : World} {g : Nat} {h : List Int} {fed : Int} (hS : Sca w g h fed) : g < w.heap.size := hS.1
theorem Tab.same {w w' : World} (hT : Tab w) (hb : w'.heap[0]? = w.heap[0]?) : Tab w' := fun b h0 h1 => (World.cell?_of_block (a := ⟨0, b.toNat, none⟩) hb).trans (hT b h0 h1)
theorem Tab.scf {w w' : World} {B g : Nat} (hT : Tab w) (hb : Scf B g w w') (hB : 0 < B) (hg : g ≠ 0) : Tab w' := hT.same (hb.block 0 hB (Ne.symm hg))
theorem Lies.same {w w' : World} {g off : Nat} {l : List Int} (hL : Lies w g off l) (hb : w'.heap[g]? = w.heap[g]?) : Lies w' g off l := fun i hi => by
  rw [World.cell?_of_block (a := ⟨g, off + i, none⟩) hb]; exact hL i hi
theorem IsB.scf {w w' : World} {B g : Nat} {a0 : Option Addr} {cap : Nat} {l : List Int} (h : IsB w a0 cap l) (hb : Scf B g w w') (hB : ∀ a, a0 = some a → a.block < B ∧ a.block ≠ g) : IsB w' a0 cap l := by
  obtain ⟨h1, h2, h3, h4⟩ := h
  refine ⟨h1, h2, ?_, h4⟩
  rcases h3 with h3 | ⟨b, off, rfl, hL⟩
  · exact Or.inl h3
  · exact Or.inr ⟨b, off, rfl, hL.same (hb.block b (hB _ rfl).1 (hB _ rfl).2)⟩

theorem Sca.hold {g : Nat} {h : List Int} {fed : Int} {w : World} (hS : Sca w g h fed) {x : Int} (hl : h.length < 3) (hx : 0 ≤ x ∧ x ≤ 255) {k : Int} (hk : k = ((h ++ [x]).length : Int)) :
    Sca (((w.setCell ⟨g, h.length, none⟩ (.int .u8 x)).drew).setCell ⟨g, 3, none⟩ (.int .i64 k)) g (h ++ [x]) fed := by
  obtain ⟨hg, _, hL, hz, hs, hc, hf⟩ := hS
  have hs0 := hs h.length (by omega)
  have c1 : ∀ j, (w.setCell ⟨g, h.length, none⟩ (.int .u8 x)).drew.cell? ⟨g, j, none⟩ = if j = h.length then some (.int .u8 x) else w.cell? ⟨g, j, none⟩ := fun j => cell_set hs0 j
  have c2 : ∀ j, (((w.setCell ⟨g, h.length, none⟩ (.int .u8 x)).drew).setCell ⟨g, 3, none⟩ (.int .i64 k)).cell? ⟨g, j, none⟩ = if j = 3 then some (.int .i64 k) else if j = h.length then some (.int .u8 x) else w.cell? ⟨g, j, none⟩ := fun j => by
    rw [cell_set (by rw [c1, if_neg (by omega), hc]; rfl), c1]
  refine ⟨by rw [size_set]; exact Nat.lt_of_lt_of_eq hg (size_set _ _ _).symm, by simp; omega, fun i hi => ?_, fun i hi => ?_, fun i hi => ?_, ?_, ?_⟩
  · simp at hi
    rw [Nat.zero_add, c2, if_neg (by omega)]
    by_cases e : i = h.length
    · subst e; simp [hx]
    · rw [if_neg e]
      have := hL i (by omega)
      rw [Nat.zero_add] at this
      simpa [List.getD, List.getElem?_append_left (show i < h.length by omega)] using this
  · rw [frozen_set]; exact (frozen_set i).trans (hz i hi)
  · rw [c2, if_neg (by omega)]; split
    · rfl
    · exact hs i hi
  · rw [c2, if_pos rfl, hk]
  · rw [c2, if_neg (by omega), if_neg (by omega)]; exact hf

end Go.Proofs.YtophdhpkinedgaaGreatDoor
end

section
namespace Go.Proofs.YtophdhpkinedgaaGreatDoor
open Go.ChangeShapes Go.WideShapes Go.ChangeAt Go.RowKit

theorem own_bl {W W' : World} {B e s n : Nat} {v : Value} {xs : List Value} (h : W.ownsRow B e s v n xs) (hb : Below W.heap.size W W') : W'.ownsRow B e s v n xs :=
  h.kept (row := none) ⟨hb.os, hb.tape, hb.output, hb.size, fun j hj _ => hb.block j hj⟩ (by cases hv : v.ownBlock <;> simp)
end Go.Proofs.YtophdhpkinedgaaGreatDoor
end

section
namespace Go.Proofs.YtophdhpkinedgaaGreatDoor
open Go.ChangeShapes Go.WideShapes Go.ChangeAt Go.RowKit

/-- steps: rune, width, whole -/
abbrev Tri := Int × Nat × Bool
def tc (t : Tri) : List Value := [.int .i32 t.1, .int .i64 t.2.1, .bool t.2.2]
def tcs (ts : List Tri) : List Value := ts.flatMap tc
def badT : Tri := (65533, 1, false)
def RT (B : Nat) (v : Value) (ts : List Tri) (W : World) : Prop := W.ownsRow B 68 3 v ts.length (tcs ts)
theorem RT.nil (B : Nat) (W : World) : RT B (.slice none 0 0) [] W := World.ownsRow_nil _ _ _ _
theorem RT.below {B : Nat} {v : Value} {ts : List Tri} {W W' : World} (h : RT B v ts W) (hb : Below W.heap.size W W') : RT B v ts W' := own_bl h hb
end Go.Proofs.YtophdhpkinedgaaGreatDoor
end

section
namespace Go.Proofs.YtophdhpkinedgaaGreatDoor
open Go.ChangeShapes Go.WideShapes Go.ChangeAt Go.RowKit

def begins : List Int → Bool
  | [] => false
  | a :: r => decide ((r.length : Int) + 1 ≤ need a) && (match r with | [] => true | b :: t => sec a b && t.all isTail)
theorem begins_one {a : Int} (h : 1 ≤ need a) : begins [a] = true := by simp [begins, h]
theorem begins_more {a b : Int} {t : List Int} (h : (t.length : Int) + 2 ≤ need a) : begins (a :: b :: t) = (sec a b && t.all isTail) := by
  have : ((b :: t).length : Int) + 1 ≤ need a := by simp only [List.length_cons]; omega
  simp only [begins, this, decide_true, Bool.true_and]

theorem begins_whole {a : Int} {r : List Int} : (begins (a :: r) && ((r.length : Int) + 1 == need a)) = whole (a :: r) := by
  by_cases h : (r.length : Int) + 1 = need a
  · have h1 : ((r.length : Int) + 1 == need a) = true := beq_iff_eq.2 h
    rw [h1, Bool.and_true]
    simp only [begins, whole, h, Int.le_refl, decide_true, Bool.true_and]
    cases r <;> rfl
  · have h1 : ((r.length : Int) + 1 == need a) = false := beq_eq_false_iff_ne.2 h
    rw [h1, Bool.and_false, whole_len h]

end Go.Proofs.YtophdhpkinedgaaGreatDoor
end
