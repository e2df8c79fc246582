/- Layer 13: the law's fixed fact (the document's examples), its copies. · Layer 13: the law's fixed fact. · Layer 13: the law's same and bytes, told by what lies there. · Layer 13: DeltaApply. · Layer 13: DeltaApply's walk. -/
import Derived.Test.YtkmbkoajbmlgaaaMg30
import Derived.Lib.SlBytesConst

section
namespace Go.Proofs.Ytkmbkoajbmlgaaa
open Go.ChangeShapes Go.WideShapes Go.ChangeAt Go.RowKit
attribute [local go_sem] Oper.semAt_some

set_option maxRecDepth 100000 in
theorem bytes13_at (a0 : Option Addr) (c0 : Nat) (b : List Int) (w : World) (hb : IsB w a0 c0 b) :
    Calls Try.prog 12 #[.slice a0 b.length c0] w fun y w' => ∃ v, y = .returned v ∧ Own w' w.heap.size v b ∧ Below w.heap.size w w' := by
  obtain ⟨v', w', hr, ho, hbb⟩ := run_copy_own w a0 c0 b 22 hb
  have R2 := hide hr
  have HO := hide ho
  have HB := hide hbb
  clear hr ho hbb hb
  go_enter Try.func12, Try.ntmps12
  go_wp2_with (at_builtin; refine wpList_append_known rfl _ _ 22 22 rfl _ _ rfl rfl _ _ (unhide R2) ?_; clear R2)
  refine bodyPost_ret (results_tmp rfl _ _ _) rfl ⟨v', rfl, unhide HO, unhide HB⟩
def exD : List Dop := [⟨1, 2, []⟩, ⟨2, 0, [120, 121]⟩, ⟨3, 1, []⟩, ⟨1, 3, []⟩]
def exB : List Int := [97, 98, 99, 100, 101, 102]
def exI : List Dop := [⟨1, 2, []⟩, ⟨2, 0, [99]⟩, ⟨3, 2, []⟩, ⟨1, 3, []⟩]
theorem ex_val : valB exD = true ∧ frD exD = 6 ∧ toD exD = 7 := by decide
theorem ex_tb : ∀ o ∈ exD, TbD o := by
  show ∀ o ∈ exD, ∀ x ∈ o.t, 0 ≤ x ∧ x ≤ 255
  decide
theorem ex_ap : apD exB exD = [97, 98, 120, 121, 100, 101, 102] := by decide
theorem ex_fit : fitE exD exB.length = 0 := by unfold fitE; rw [ex_val.1, ex_val.2.1]; decide
theorem ex_inv : invD exB exD = exI := by unfold invD; rw [if_pos ex_fit]; decide
theorem ex_isO (w : World) : IsO (w.alloc (.cells #[.int .i64 1, .int .i64 2, .string ⟨#[]⟩, .int .i64 2, .int .i64 0, .string ⟨#[120, 121]⟩, .int .i64 3, .int .i64 1, .string ⟨#[]⟩, .int .i64 1, .int .i64 3, .string ⟨#[]⟩] 34)) (some ⟨w.heap.size, 0, none⟩) exD := by
  refine Or.inr ⟨_, _, rfl, by simp, fun k hk => ?_⟩
  have f : ∀ j, (w.alloc (.cells #[.int .i64 1, .int .i64 2, .string ⟨#[]⟩, .int .i64 2, .int .i64 0, .string ⟨#[120, 121]⟩, .int .i64 3, .int .i64 1, .string ⟨#[]⟩, .int .i64 1, .int .i64 3, .string ⟨#[]⟩] 34)).cell? ⟨w.heap.size, j, none⟩ = _ := fun j => World.cell?_alloc_mark w _ _ (0, 0) j
  have hk' : k = 0 ∨ k = 1 ∨ k = 2 ∨ k = 3 := by simp [exD] at hk; omega
  rcases hk' with rfl | rfl | rfl | rfl
  all_goals exact ⟨(f _).trans rfl, (f _).trans rfl, (f _).trans rfl⟩
theorem ex_isB (w : World) (X : World) (h : Below (w.heap.size + 1) (w.alloc (.cells #[.int .u8 97, .int .u8 98, .int .u8 99, .int .u8 100, .int .u8 101, .int .u8 102] 5 (6, 7))) X) : IsB X (some ⟨w.heap.size, 0, none⟩) 6 exB := by
  refine ⟨by decide, by decide, Or.inr ⟨_, _, rfl, fun i hi => ?_⟩, by decide⟩
  have hi' : i = 0 ∨ i = 1 ∨ i = 2 ∨ i = 3 ∨ i = 4 ∨ i = 5 := by simp [exB] at hi; omega
  have f : ∀ j, X.cell? ⟨w.heap.size, j, none⟩ = _ := fun j => (h.cell (p := ⟨w.heap.size, j, none⟩) (by show w.heap.size < _; omega)).trans (World.cell?_alloc_mark w _ _ (6, 7) j)
  rcases hi' with rfl | rfl | rfl | rfl | rfl | rfl
  all_goals exact ⟨(f _).trans rfl, by decide⟩

end Go.Proofs.Ytkmbkoajbmlgaaa
end

section
namespace Go.Proofs.Ytkmbkoajbmlgaaa
open Go.ChangeShapes Go.WideShapes Go.ChangeAt Go.RowKit
attribute [local go_sem] Oper.semAt_some

theorem own13O (a : Addr) (c : Nat) (d : List Dop) (w : World) (h : IsO w (some a) d) (hb : d.length * 32 ≤ 140737488355328) :
    Calls Try.prog 13 #[.slice (some a) d.length c] w fun y w' => ∃ a' c', y = .returned (.slice a' d.length c') ∧ IsO w' a' d ∧ d.length ≤ c' ∧ Below w.heap.size w w' :=
  (own13_at (some a) c d w h (.inr ⟨a, rfl⟩) hb).mono fun y w' ⟨v, e, ho, x⟩ => by
    obtain ⟨a', c', rfl, h1, h2⟩ := own_isO ho
    exact ⟨a', c', e, h1, h2, x⟩
theorem str_ex : strOfNums [97, 98, 120, 121, 100, 101, 102] = ⟨#[97, 98, 120, 121, 100, 101, 102]⟩ := by decide
theorem str_c : strOfNums [99] = ⟨#[99]⟩ := by decide
/-- Apply of the example -/
theorem exApply (w1 wb : World) (a : Option Addr) (c : Nat) (hx : Below (w1.heap.size + 1) (w1.alloc (.cells #[.int .u8 97, .int .u8 98, .int .u8 99, .int .u8 100, .int .u8 101, .int .u8 102] 5 (6, 7))) wb) (h : IsO wb a exD) :
    Calls Try.prog 14 #[.slice (some ⟨w1.heap.size, 0, none⟩) 6 6, .slice a 4 c] wb fun y w' => ∃ g cap, y = .returned (.tuple #[.slice (some ⟨g, 0, none⟩) 7 cap, .int .i64 0]) ∧ Lies w' g 0 [97, 98, 120, 121, 100, 101, 102] ∧ g < w'.heap.size ∧ Below wb.heap.size wb w' :=
  (Apply_at (some ⟨w1.heap.size, 0, none⟩) 6 exB a c exD wb (ex_isB w1 wb hx) h (by decide) ex_tb).mono fun y w' ⟨v, e, ho, x⟩ => by
    rw [ex_fit] at e ho
    rw [if_pos rfl, ex_ap] at ho
    obtain ⟨g, cap, rfl, _, h2, _⟩ := ho.form (by decide)
    exact ⟨g, cap, e, ho.lies (by decide), h2, x⟩
theorem exInvert (w1 wb : World) (a : Option Addr) (c : Nat) (hx : Below (w1.heap.size + 1) (w1.alloc (.cells #[.int .u8 97, .int .u8 98, .int .u8 99, .int .u8 100, .int .u8 101, .int .u8 102] 5 (6, 7))) wb) (h : IsO wb a exD) :
    Calls Try.prog 15 #[.slice (some ⟨w1.heap.size, 0, none⟩) 6 6, .slice a 4 c] wb fun y w' => ∃ g off cap, y = .returned (.tuple #[.slice (some ⟨g, off, none⟩) 4 cap, .int .i64 0]) ∧ w'.cell? ⟨g, off + 3 + 2, none⟩ = some (.string ⟨#[99]⟩) ∧ Below wb.heap.size wb w' :=
  (Invert_at (some ⟨w1.heap.size, 0, none⟩) 6 exB a c exD wb (ex_isB w1 wb hx) h (by decide)).mono fun y w' ⟨v, e, ho, x⟩ => by
    rw [ex_fit] at e
    rw [ex_inv] at ho
    obtain ⟨a', c', rfl, h1, h2⟩ := own_isO ho
    obtain ⟨g, off, rfl, _, _, _, k2⟩ := h1.three (k := 1) (by decide)
    refine ⟨g, off, c', e, ?_, x⟩
    rw [← str_c]
    exact k2
theorem exLens (wb : World) (a : Option Addr) (c : Nat) (h : IsO wb a exD) :
    Calls Try.prog 21 #[.slice a 4 c] wb fun y w' => y = .returned (.tuple #[.int .i64 6, .int .i64 7, .int .i64 0]) ∧ Below wb.heap.size wb w' :=
  (Lens_at a c exD wb h (by decide)).mono fun y w' ⟨e, x⟩ => by
    unfold lensV at e
    rw [ex_val.1, ex_val.2.1, ex_val.2.2] at e
    exact ⟨e, x⟩
theorem exValid (wb : World) (a : Option Addr) (c : Nat) (h : IsO wb a exD) :
    Calls Try.prog 20 #[.slice a 4 c] wb fun y w' => y = .returned (.bool true) ∧ Below wb.heap.size wb w' :=
  (Valid_atD a c exD wb h (by decide)).mono fun y w' ⟨e, x⟩ => by
    rw [ex_val.1] at e
    exact ⟨e, x⟩
set_option maxRecDepth 100000 in
set_option maxHeartbeats 4000000 in
theorem awake13_at (w : World) : Calls Try.prog 8 #[] w fun y w' => y = .returned (.bool true) ∧ Below w.heap.size w w' := by
  have kc := fun (w : World) (C : Array Value) (n c : Nat) => Lib.run_convert_bytes_const (P := Try.prog) w 22 5 C n c Try.underlying22 Try.underlying5
  have hO := ex_isO w
  have b1 := (Below.refl w.heap.size w).alloc (Nat.le_refl _) (.cells #[.int .i64 1, .int .i64 2, .string ⟨#[]⟩, .int .i64 2, .int .i64 0, .string ⟨#[120, 121]⟩, .int .i64 3, .int .i64 1, .string ⟨#[]⟩, .int .i64 1, .int .i64 3, .string ⟨#[]⟩] 34)
  have HB1 := hide b1
  have HW1 := hide fun (X : World) (hx : Below (w.alloc (.cells #[.int .i64 1, .int .i64 2, .string ⟨#[]⟩, .int .i64 2, .int .i64 0, .string ⟨#[120, 121]⟩, .int .i64 3, .int .i64 1, .string ⟨#[]⟩, .int .i64 1, .int .i64 3, .string ⟨#[]⟩] 34)).heap.size (w.alloc (.cells #[.int .i64 1, .int .i64 2, .string ⟨#[]⟩, .int .i64 2, .int .i64 0, .string ⟨#[120, 121]⟩, .int .i64 3, .int .i64 1, .string ⟨#[]⟩, .int .i64 1, .int .i64 3, .string ⟨#[]⟩] 34)) X) => hO.below hx (Nat.le_refl _)
  clear hO b1
  go_enter Try.func8, Try.ntmps8
  go_upto_region 2 with fail
  generalize w.alloc (.cells #[.int .i64 1, .int .i64 2, .string ⟨#[]⟩, .int .i64 2, .int .i64 0, .string ⟨#[120, 121]⟩, .int .i64 3, .int .i64 1, .string ⟨#[]⟩, .int .i64 1, .int .i64 3, .string ⟨#[]⟩] 34) = w1 at *
  generalize hgo : w.heap.size = go at *
  have HOwn : Hid (∀ X, Below w1.heap.size w1 X → Calls Try.prog 13 #[.slice (some ⟨go, 0, none⟩) 4 4] X fun y w' => ∃ a' c', y = .returned (.slice a' 4 c') ∧ IsO w' a' exD ∧ 4 ≤ c' ∧ Below X.heap.size X w') := hide fun X hx => own13O ⟨go, 0, none⟩ 4 exD X (unhide HW1 X hx) (by decide)
  have HAl : Hid (∀ X : World, Below w1.heap.size w1 X → Below w1.heap.size w1 (X.alloc (.cells #[.int .u8 97, .int .u8 98, .int .u8 99, .int .u8 100, .int .u8 101, .int .u8 102] 5 (6, 7)))) := hide fun X hX => hX.alloc hX.size _
  have HSz : Hid (∀ X : World, (X.alloc (.cells #[.int .u8 97, .int .u8 98, .int .u8 99, .int .u8 100, .int .u8 101, .int .u8 102] 5 (6, 7))).heap.size = X.heap.size + 1) := hide fun X => World.size_alloc ..
  have X1 := Below.refl w1.heap.size w1
  have HO1 := hide (unhide HOwn _ (unhide HAl w1 X1))
  clear X1
  go_wp2_with fail
  refine (unhide HO1).mono ?_
  rintro y w2 ⟨a2, c2, rfl, i2, l2, x2⟩
  dsimp only
  rw [unhide HSz] at x2
  have HAp := hide (exApply w1 w2 a2 c2 x2 i2)
  have hX2 : Below w1.heap.size w1 w2 := (unhide HAl w1 (Below.refl _ _)).trans (x2.mono (by omega))
  have HX2 := hide hX2
  clear HO1 i2 x2 hX2
  go_wp2_with fail
  refine (unhide HAp).mono ?_
  rintro y w3 ⟨g3, c3, rfl, l3, z3, x3⟩
  dsimp only
  have hX3 : Below w1.heap.size w1 w3 := (unhide HX2).trans (x3.mono (unhide HX2).size)
  have HX3 := hide hX3
  have HL3 := hide (And.intro l3 z3)
  have HO3 := hide (unhide HOwn w3 hX3)
  clear HAp HX2 x3 l3 z3 hX3
  go_wp2_with fail
  refine (unhide HO3).mono ?_
  rintro y w4 ⟨a4, c4, rfl, i4, l4, x4⟩
  dsimp only
  have HLe := hide (exLens w4 a4 c4 i4)
  have HX4 := hide ((unhide HX3).trans (x4.mono (unhide HX3).size))
  have HL4 : Hid (Lies w4 g3 0 [97, 98, 120, 121, 100, 101, 102] ∧ g3 < w4.heap.size) := hide ⟨fun i hi => ⟨(x4.cell (p := ⟨g3, 0 + i, none⟩) (unhide HL3).2).trans ((unhide HL3).1 i hi).1, ((unhide HL3).1 i hi).2⟩, Nat.lt_of_lt_of_le (unhide HL3).2 x4.size⟩
  clear HO3 HX3 HL3 i4 x4
  go_wp2_with fail
  refine (unhide HLe).mono ?_
  rintro y w5 ⟨rfl, x5⟩
  dsimp only
  have HX5 := hide ((unhide HX4).trans (x5.mono (unhide HX4).size))
  have HL5 : Hid (Lies w5 g3 0 [97, 98, 120, 121, 100, 101, 102] ∧ g3 < w5.heap.size) := hide ⟨fun i hi => ⟨(x5.cell (p := ⟨g3, 0 + i, none⟩) (unhide HL4).2).trans ((unhide HL4).1 i hi).1, ((unhide HL4).1 i hi).2⟩, Nat.lt_of_lt_of_le (unhide HL4).2 x5.size⟩
  have HO5 := hide (unhide HOwn _ (unhide HAl w5 (unhide HX5)))
  clear HLe HX4 HL4 x5
  go_wp2_with fail
  refine (unhide HO5).mono ?_
  rintro y w6 ⟨a6, c6, rfl, i6, l6, x6⟩
  dsimp only
  rw [unhide HSz] at x6
  have HIn := hide (exInvert w5 w6 a6 c6 x6 i6)
  have x56 : Below w5.heap.size w5 w6 := ((Below.refl w5.heap.size w5).alloc (Nat.le_refl _) _).trans (x6.mono (by omega))
  have HX6 := hide ((unhide HX5).trans (x56.mono (unhide HX5).size))
  have HL6 : Hid (Lies w6 g3 0 [97, 98, 120, 121, 100, 101, 102] ∧ g3 < w6.heap.size) := hide ⟨fun i hi => ⟨(x56.cell (p := ⟨g3, 0 + i, none⟩) (unhide HL5).2).trans ((unhide HL5).1 i hi).1, ((unhide HL5).1 i hi).2⟩, Nat.lt_of_lt_of_le (unhide HL5).2 x56.size⟩
  clear HO5 HX5 HL5 i6 x6 x56
  go_wp2_with fail
  refine (unhide HIn).mono ?_
  rintro y w7 ⟨g7, o7, c7, rfl, k7, x7⟩
  dsimp only
  have HX7 := hide ((unhide HX6).trans (x7.mono (unhide HX6).size))
  have hL7 : Lies w7 g3 0 [97, 98, 120, 121, 100, 101, 102] := fun i hi => ⟨(x7.cell (p := ⟨g3, 0 + i, none⟩) (unhide HL6).2).trans ((unhide HL6).1 i hi).1, ((unhide HL6).1 i hi).2⟩
  have hcv : (convert 22 9 (.slice (some ⟨g3, 0, none⟩) 7 c3)).run Try.prog w7 = .ok (.string ⟨#[97, 98, 120, 121, 100, 101, 102]⟩) w7 := by
    rw [← str_ex]
    exact str_lies w7 g3 0 c3 _ hL7
  have HVa := hide (exValid w7 (some ⟨go, 0, none⟩) 4 (unhide HW1 w7 (unhide HX7)))
  clear HIn HX6 HL6 x7 hL7 HOwn HAl HSz HW1
  go_wp2_with fail
  refine (unhide HVa).mono ?_
  rintro y w8 ⟨rfl, x8⟩
  dsimp only
  have HX8 := hide ((unhide HB1).trans (((unhide HX7).trans (x8.mono (unhide HX7).size)).mono (hgo ▸ (unhide HB1).size)))
  rw [← hgo] at HX8
  clear HVa HX7 HB1 x8 hcv k7
  go_wp2_with fail
  refine bodyPost_ret (results_tmp rfl _ _ _) rfl ⟨rfl, unhide HX8⟩

end Go.Proofs.Ytkmbkoajbmlgaaa
end

section
namespace Go.Proofs.Ytkmbkoajbmlgaaa
open Go.ChangeShapes Go.WideShapes Go.ChangeAt Go.RowKit
attribute [local go_sem] Oper.semAt_some

theorem Own.isB {w : World} {B : Nat} {v : Value} {l : List Int} (h : Own w B v l) (hl : ∀ x ∈ l, 0 ≤ x ∧ x ≤ 255) (hn : l.length ≤ 140737488351232) : ∃ a c, v = .slice a l.length c ∧ IsB w a c l := by
  have hh := h
  rcases h.2 with ⟨rfl, h0⟩ | ⟨g, cap, cur, rfl, _, _, hc, _⟩
  · have h0' : l = [] := List.length_eq_zero_iff.1 h0
    exact ⟨none, 0, by rw [h0], by omega, hn, Or.inl h0', hl⟩
  · exact ⟨some ⟨g, 0, none⟩, cap, rfl, hc, hn, Or.inr ⟨g, 0, rfl, hh.lies hl⟩, hl⟩
theorem bytes13B (a0 : Option Addr) (c0 : Nat) (b : List Int) (w : World) (hb : IsB w a0 c0 b) :
    Calls Try.prog 12 #[.slice a0 b.length c0] w fun y w' => ∃ a' c', y = .returned (.slice a' b.length c') ∧ IsB w' a' c' b ∧ Below w.heap.size w w' :=
  (bytes13_at a0 c0 b w hb).mono fun y w' ⟨v, e, ho, x⟩ => by
    obtain ⟨a', c', rfl, h1⟩ := ho.isB hb.2.2.2 hb.2.1
    exact ⟨a', c', e, h1, x⟩
set_option maxRecDepth 100000 in
theorem same13_at (a : Option Addr) (c : Nat) (d : List Dop) (a' : Option Addr) (c' : Nat) (e : List Dop) (w : World) (h : IsO w a d) (h' : IsO w a' e) (hl : d.length ≤ 4611686018427387904) (hl' : e.length ≤ 4611686018427387904) (hb : ∀ o ∈ d, TbD o) (hb' : ∀ o ∈ e, TbD o) :
    Calls Try.prog 22 #[.slice a d.length c, .slice a' e.length c'] w fun y w' => y = .returned (.bool (decide (d = e))) ∧ Below w.heap.size w w' := by
  have HC := hide (RSame_at a c d a' c' e w h h' hl hl' hb hb')
  clear h h' hl hl' hb hb'
  generalize decide (d = e) = V at *
  go_enter Try.func22, Try.ntmps22
  go_wp2_with fail
  refine (unhide HC).mono ?_
  rintro y w1 ⟨rfl, x1⟩
  dsimp only
  clear HC
  go_wp2_with fail
  refine bodyPost_ret (results_tmp rfl _ _ _) rfl ⟨rfl, x1⟩
/-- the inverse is of bytes, if the old bytes are -/
theorem runV_tb {b : List Int} (hb : ∀ x ∈ b, 0 ≤ x ∧ x ≤ 255) (d : List Dop) : (∀ x ∈ (runV b d).1, 0 ≤ x ∧ x ≤ 255) ∧ ∀ o ∈ (runV b d).2, TbD o := by
  unfold runV
  have : ∀ (d : List Dop) (s : List Int × List Dop), ((∀ x ∈ s.1, 0 ≤ x ∧ x ≤ 255) ∧ ∀ o ∈ s.2, TbD o) → (∀ x ∈ (d.foldl stV s).1, 0 ≤ x ∧ x ≤ 255) ∧ ∀ o ∈ (d.foldl stV s).2, TbD o := by
    intro d
    induction d with
    | nil => intro s h; exact h
    | cons o r ih =>
      intro s h
      refine ih _ ?_
      unfold stV
      split
      · refine ⟨fun x hx => h.1 x (List.mem_of_mem_drop hx), fun q hq => ?_⟩
        rcases List.mem_append.1 hq with hq | hq
        · exact h.2 q hq
        · rw [List.mem_singleton.1 hq]; intro x hx; cases hx
      · split
        · refine ⟨h.1, fun q hq => ?_⟩
          rcases List.mem_append.1 hq with hq | hq
          · exact h.2 q hq
          · rw [List.mem_singleton.1 hq]; intro x hx; cases hx
        · refine ⟨fun x hx => h.1 x (List.mem_of_mem_drop hx), fun q hq => ?_⟩
          rcases List.mem_append.1 hq with hq | hq
          · exact h.2 q hq
          · rw [List.mem_singleton.1 hq]; intro x hx; exact h.1 x (List.mem_of_mem_take hx)
  exact this d (b, []) ⟨hb, fun o ho => by cases ho⟩

end Go.Proofs.Ytkmbkoajbmlgaaa
end

section
namespace Go.Proofs.Ytkmbkoajbmlgaaa
open Go.ChangeShapes Go.WideShapes Go.ChangeAt Go.RowKit
attribute [local go_sem] Oper.semAt_some

theorem own13G (a : Option Addr) (c : Nat) (d : List Dop) (w : World) (h : IsO w a d) (hz : d = [] ∨ ∃ q, a = some q) (hb : d.length * 32 ≤ 140737488355328) :
    Calls Try.prog 13 #[.slice a d.length c] w fun y w' => ∃ a' c', y = .returned (.slice a' d.length c') ∧ IsO w' a' d ∧ Below w.heap.size w w' :=
  (own13_at a c d w h hz hb).mono fun y w' ⟨v, e, ho, x⟩ => by
    obtain ⟨a', c', rfl, h1, _⟩ := own_isO ho
    exact ⟨a', c', e, h1, x⟩
theorem runW_tb {b : List Int} (hb : ∀ x ∈ b, 0 ≤ x ∧ x ≤ 255) (d : List Dop) (hd : ∀ o ∈ d, TbD o) : (∀ x ∈ (runW b d).1, 0 ≤ x ∧ x ≤ 255) ∧ ∀ x ∈ (runW b d).2, 0 ≤ x ∧ x ≤ 255 := by
  unfold runW
  have : ∀ (d : List Dop), (∀ o ∈ d, TbD o) → ∀ (s : List Int × List Int), ((∀ x ∈ s.1, 0 ≤ x ∧ x ≤ 255) ∧ ∀ x ∈ s.2, 0 ≤ x ∧ x ≤ 255) → (∀ x ∈ (d.foldl stW s).1, 0 ≤ x ∧ x ≤ 255) ∧ ∀ x ∈ (d.foldl stW s).2, 0 ≤ x ∧ x ≤ 255 := by
    intro d
    induction d with
    | nil => intro _ s h; exact h
    | cons o r ih =>
      intro hd s h
      refine ih (fun q hq => hd q (List.mem_cons_of_mem _ hq)) _ ?_
      unfold stW
      split
      · refine ⟨fun x hx => h.1 x (List.mem_of_mem_drop hx), fun x hx => ?_⟩
        rcases List.mem_append.1 hx with hx | hx
        · exact h.2 x hx
        · exact h.1 x (List.mem_of_mem_take hx)
      · split
        · refine ⟨h.1, fun x hx => ?_⟩
          rcases List.mem_append.1 hx with hx | hx
          · exact h.2 x hx
          · exact hd o List.mem_cons_self x hx
        · exact ⟨fun x hx => h.1 x (List.mem_of_mem_drop hx), h.2⟩
  exact this d hd (b, []) ⟨hb, fun o ho => by cases ho⟩
def apE (b : List Int) (d : List Dop) : List Int := if fitE d b.length = 0 then apD b d else []
theorem apE_tb {b : List Int} (hb : ∀ x ∈ b, 0 ≤ x ∧ x ≤ 255) {d : List Dop} (hd : ∀ o ∈ d, TbD o) : (∀ x ∈ apE b d, 0 ≤ x ∧ x ≤ 255) ∧ (apE b d).length ≤ 140737488351232 := by
  unfold apE
  rcases fit_cases d b.length with ⟨hv, he⟩ | ⟨hv, hf, he, _⟩ | ⟨hv, hf, he⟩
  · rw [he, if_neg (by decide)]; exact ⟨fun x hx => (by cases hx), by simp⟩
  · rw [he, if_neg (by decide)]; exact ⟨fun x hx => (by cases hx), by simp⟩
  · rw [he, if_pos rfl, ap_len hv hf]
    exact ⟨(runW_tb hb d hd).2, by have := (valB_nn hv).2; omega⟩
theorem ApplyB_at (a0 : Option Addr) (c0 : Nat) (b : List Int) (a : Option Addr) (c : Nat) (d : List Dop) (w : World) (hb : IsB w a0 c0 b) (h : IsO w a d) (hl : d.length ≤ 4611686018427387904) (ht : ∀ o ∈ d, TbD o) :
    Calls Try.prog 14 #[.slice a0 b.length c0, .slice a d.length c] w fun y w' => ∃ a' c', y = .returned (.tuple #[.slice a' (apE b d).length c', .int .i64 (fitE d b.length)]) ∧ IsB w' a' c' (apE b d) ∧ Below w.heap.size w w' :=
  (Apply_at a0 c0 b a c d w hb h hl ht).mono fun y w' ⟨v, e, ho, x⟩ => by
    obtain ⟨a', c', rfl, h1⟩ := Own.isB (l := apE b d) ho (apE_tb hb.2.2.2 ht).1 (apE_tb hb.2.2.2 ht).2
    exact ⟨a', c', e, h1, x⟩
theorem InvertO_at (a0 : Option Addr) (c0 : Nat) (b : List Int) (a : Option Addr) (c : Nat) (d : List Dop) (w : World) (hb : IsB w a0 c0 b) (h : IsO w a d) (hl : d.length ≤ 4611686018427387904) :
    Calls Try.prog 15 #[.slice a0 b.length c0, .slice a d.length c] w fun y w' => ∃ a' c', y = .returned (.tuple #[.slice a' (invD b d).length c', .int .i64 (fitE d b.length)]) ∧ IsO w' a' (invD b d) ∧ Below w.heap.size w w' :=
  (Invert_at a0 c0 b a c d w hb h hl).mono fun y w' ⟨v, e, ho, x⟩ => by
    obtain ⟨a', c', rfl, h1, _⟩ := own_isO ho
    exact ⟨a', c', e, h1, x⟩
theorem RApplyB_at (a0 : Option Addr) (c0 : Nat) (b : List Int) (a : Option Addr) (c : Nat) (d : List Dop) (w : World) (hb : IsB w a0 c0 b) (h : IsO w a d) (hl : d.length ≤ 4611686018427387904) (hv : valB d = true) (hf : frD d = b.length) (htb : ∀ o ∈ d, TbD o) :
    Calls Try.prog 25 #[.slice a0 b.length c0, .slice a d.length c] w fun y w' => ∃ v, y = .returned v ∧ (∀ Z, Below w'.heap.size w' Z → (convert 22 9 v).run Try.prog Z = .ok (.string (strOfNums (apD b d))) Z) ∧ Below w.heap.size w w' :=
  (RApply_at a0 c0 b a c d w hb h hl hv hf htb).mono fun y w' ⟨v, e, ho, x⟩ => by
    obtain ⟨a', c', rfl, h1⟩ := ho.isB (runW_tb hb.2.2.2 d htb).2 (by rw [ap_len hv hf]; have := (valB_nn hv).2; omega)
    exact ⟨_, e, fun Z hZ => str_bs Z a' c' _ (h1.below hZ (Nat.le_refl _)).2.2.1, x⟩

end Go.Proofs.Ytkmbkoajbmlgaaa
end

section
namespace Go.Proofs.Ytkmbkoajbmlgaaa
open Go.ChangeShapes Go.WideShapes Go.ChangeAt Go.RowKit
attribute [local go_sem] Oper.semAt_some

def TbB (b : Bld) : Prop := (∀ o ∈ b.ops, TbD o) ∧ ∀ x ∈ b.tx, 0 ≤ x ∧ x ≤ 255
theorem tb_fin {b : Bld} (h : TbB b) : ∀ o ∈ b.fin, TbD o := by
  intro o ho
  unfold Bld.fin at ho
  rcases List.mem_append.1 ho with ho | ho
  · rcases List.mem_append.1 ho with ho | ho
    · rcases List.mem_append.1 ho with ho | ho
      · exact h.1 o ho
      · unfold kO at ho
        split at ho
        · cases ho
        · rw [List.mem_singleton.1 ho]; intro x hx; cases hx
    · unfold pO at ho
      split at ho
      · cases ho
      · rw [List.mem_singleton.1 ho]; exact h.2
  · unfold dO at ho
    split at ho
    · cases ho
    · rw [List.mem_singleton.1 ho]; intro x hx; cases hx
theorem tb_op {b : Bld} {o : Dop} (h : TbB b) (ho : TbD o) : TbB (b.op o) := by
  unfold Bld.op
  split
  · unfold Bld.keep
    split
    · exact h
    · split
      · exact ⟨h.1, fun x hx => by cases hx⟩
      · exact ⟨tb_fin h, fun x hx => by cases hx⟩
  · split
    · refine ⟨h.1, fun x hx => ?_⟩
      rcases List.mem_append.1 hx with hx | hx
      · exact h.2 x hx
      · exact ho x hx
    · exact h
theorem tb_feed : ∀ (e : List Dop) (b : Bld), TbB b → (∀ o ∈ e, TbD o) → TbB (feedD b e)
  | [], _, h, _ => h
  | o :: r, b, h, he => tb_feed r (b.op o) (tb_op h (he o List.mem_cons_self)) (fun q hq => he q (List.mem_cons_of_mem _ hq))
theorem can_tb {e : List Dop} (he : ∀ o ∈ e, TbD o) : ∀ o ∈ canA (dA e), TbD o := by
  unfold canA
  rw [← feedD_A]
  exact tb_fin (tb_feed e b0 ⟨fun o ho => by simp [b0] at ho, fun x hx => by simp [b0] at hx⟩ he)
theorem iv_small {b : List Int} {d : List Dop} (hv : valB d = true) (hf : frD d = b.length) : (canA (dA (ivD b d))).length ≤ 4611686018427387904 := by
  have h1 := can_len (canA_can (dA (ivD b d))).p
  have h2 : (dA (canA (dA (ivD b d)))).length = (dA (ivD b d)).length := fin_len _
  have h3 := (runV_len hv hf d.length (Nat.le_refl _)).2
  have h4 := (valB_nn hv).2
  rw [List.take_length] at h3
  have h5 : (dA (ivD b d)).length ≤ frD d + toD d := h3
  omega
end Go.Proofs.Ytkmbkoajbmlgaaa
end
