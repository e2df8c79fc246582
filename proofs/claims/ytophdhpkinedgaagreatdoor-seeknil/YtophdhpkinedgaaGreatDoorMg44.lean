/- Layer 10's laws: awake; SeekNil's walk. · Layer 5: what the list of package-level variables gives: the table of classes and utf8's two tables; bytealg's limit holds some number; a world for the witness. · SeekNil: for every input the law returns true and every argument reads afterwards as it read before; conditions: the table of classes holds at the call what the program's text lays (the card ties it to that text). -/
import Derived.Test.YtophdhpkinedgaaGreatDoorMg43
import Derived.Test.YtophdhpkinedgaaGreatDoorMg42
import Derived.Test.YtophdhpkinedgaaGreatDoorMg14
import Derived.Lib.LaidU8T
import Derived.Shelf.Vars
import Derived.Below
import Derived.ChangeOld
import Derived.ShutString

section
namespace Go.Proofs.YtophdhpkinedgaaGreatDoor
open Go.ChangeShapes Go.WideShapes Go.ChangeAt Go.RowKit
attribute [local go_sem] Oper.semAt_some

/-- the document's example, in pieces -/
def ex10 : List (List Int) := [[97, 226], [130, 172, 13], [10, 240, 159], [152, 128]]
def exT10 : List Int := [97, 226, 130, 172, 13, 10, 240, 159, 152, 128]
theorem ex10_flat : ex10.flatten = exT10 := rfl
theorem ex10_to : (toP 1 10 3 3 (EE exT10) : Int) = 6 ∧ toR 1 10 3 3 (EE exT10) = 0 := by decide +kernel
theorem ex10_wh : whV exT10 6 = .tuple #[.agg #[.int .i64 6, .int .i64 4, .int .i64 4, .int .i64 1, .int .i64 0, .int .i64 0, .int .i64 0], .int .i64 0] := by kernel_rfl
/-- bytes in a block of their own -/
theorem row10 {W : World} {g : Nat} {l : List Int} {cs : Array Value} {q : Nat × Nat} (hg : W.heap[g]? = some (.cells cs 5 q)) (hc : ∀ j, j < l.length → cs[j]? = some (.int .u8 (l.getD j 0))) (hl : ∀ x ∈ l, 0 ≤ x ∧ x ≤ 255) (hn : l.length ≤ 1000) : IsN W (some ⟨g, 0, none⟩) l.length l := by
  refine ⟨⟨Nat.le_refl _, by omega, Or.inr ⟨g, 0, rfl, fun j hj => ⟨?_, ?_⟩⟩, hl⟩, fun e => by cases e⟩
  · simp only [World.cell?, hg, Nat.zero_add]
    exact hc j hj
  · have : l.getD j 0 ∈ l := by rw [List.getD_eq_getElem?_getD, List.getElem?_eq_getElem hj]; exact List.getElem_mem hj
    exact hl _ this
theorem ex10_rows (w : World) (o1 o2 o3 o4 o5 : Obj) (h1 : o1 = .cells #[.int .u8 97, .int .u8 226] 5 (2, 3)) (h2 : o2 = .cells #[.int .u8 130, .int .u8 172, .int .u8 13] 5 (3, 4)) (h3 : o3 = .cells #[.int .u8 10, .int .u8 240, .int .u8 159] 5 (3, 4)) (h4 : o4 = .cells #[.int .u8 152, .int .u8 128] 5 (2, 3))
    (h5 : o5 = .cells #[.slice (some ⟨w.heap.size, 0, none⟩) 2 2, .slice (some ⟨w.heap.size + 1, 0, none⟩) 3 3, .slice (some ⟨w.heap.size + 1 + 1, 0, none⟩) 3 3, .slice (some ⟨w.heap.size + 1 + 1 + 1, 0, none⟩) 2 2] 30) :
    IsNN (((((w.alloc o1).alloc o2).alloc o3).alloc o4).alloc o5) (some ⟨w.heap.size + 1 + 1 + 1 + 1, 0, none⟩) ex10 ∧ Below w.heap.size w (((((w.alloc o1).alloc o2).alloc o3).alloc o4).alloc o5) := by
  have b1 : Below w.heap.size w (w.alloc o1) := (Below.refl _ _).alloc (Nat.le_refl _) _
  have b2 : Below (w.alloc o1).heap.size (w.alloc o1) ((w.alloc o1).alloc o2) := (Below.refl _ _).alloc (Nat.le_refl _) _
  have b3 : Below ((w.alloc o1).alloc o2).heap.size ((w.alloc o1).alloc o2) (((w.alloc o1).alloc o2).alloc o3) := (Below.refl _ _).alloc (Nat.le_refl _) _
  have b4 : Below (((w.alloc o1).alloc o2).alloc o3).heap.size (((w.alloc o1).alloc o2).alloc o3) ((((w.alloc o1).alloc o2).alloc o3).alloc o4) := (Below.refl _ _).alloc (Nat.le_refl _) _
  have b5 : Below ((((w.alloc o1).alloc o2).alloc o3).alloc o4).heap.size ((((w.alloc o1).alloc o2).alloc o3).alloc o4) (((((w.alloc o1).alloc o2).alloc o3).alloc o4).alloc o5) := (Below.refl _ _).alloc (Nat.le_refl _) _
  have g1 := bk9_on (bk9_on (bk9_on (bk9_on (push_get w o1) b2) b3) b4) b5
  have g2 := bk9_on (bk9_on (bk9_on (push_get (w.alloc o1) o2) b3) b4) b5
  have g3 := bk9_on (bk9_on (push_get ((w.alloc o1).alloc o2) o3) b4) b5
  have g4 := bk9_on (push_get (((w.alloc o1).alloc o2).alloc o3) o4) b5
  have g5 := push_get ((((w.alloc o1).alloc o2).alloc o3).alloc o4) o5
  have B := (((b1.trans (b2.mono b1.size)).trans (b3.mono (Nat.le_trans b1.size b2.size))).trans (b4.mono (Nat.le_trans (Nat.le_trans b1.size b2.size) b3.size))).trans (b5.mono (Nat.le_trans (Nat.le_trans (Nat.le_trans b1.size b2.size) b3.size) b4.size))
  have zs : (((((w.alloc o1).alloc o2).alloc o3).alloc o4).alloc o5).heap.size = w.heap.size + 1 + 1 + 1 + 1 + 1 := by simp only [World.size_alloc]
  simp only [World.size_alloc] at g2 g3 g4 g5
  clear b1 b2 b3 b4 b5
  generalize (((((w.alloc o1).alloc o2).alloc o3).alloc o4).alloc o5) = W at *
  subst h1 h2 h3 h4 h5
  refine ⟨Or.inr ⟨_, 0, rfl, by omega, fun r hr => ?_⟩, B⟩
  have hr4 : r < 4 := hr
  have hcell : ∀ j, W.cell? ⟨w.heap.size + 1 + 1 + 1 + 1, 0 + j, none⟩ = (#[Value.slice (some ⟨w.heap.size, 0, none⟩) 2 2, .slice (some ⟨w.heap.size + 1, 0, none⟩) 3 3, .slice (some ⟨w.heap.size + 1 + 1, 0, none⟩) 3 3, .slice (some ⟨w.heap.size + 1 + 1 + 1, 0, none⟩) 2 2] : Array Value)[j]? := fun j => by
    simp only [World.cell?, g5, Nat.zero_add]
    rfl
  rcases (by omega : r = 0 ∨ r = 1 ∨ r = 2 ∨ r = 3) with rfl | rfl | rfl | rfl
  · exact ⟨_, _, hcell 0, row10 (l := [97, 226]) g1 (fun j hj => by have : j < 2 := hj; rcases (by omega : j = 0 ∨ j = 1) with rfl | rfl <;> rfl) (by decide) (by decide)⟩
  · exact ⟨_, _, hcell 1, row10 (l := [130, 172, 13]) g2 (fun j hj => by have : j < 3 := hj; rcases (by omega : j = 0 ∨ j = 1 ∨ j = 2) with rfl | rfl | rfl <;> rfl) (by decide) (by decide)⟩
  · exact ⟨_, _, hcell 2, row10 (l := [10, 240, 159]) g3 (fun j hj => by have : j < 3 := hj; rcases (by omega : j = 0 ∨ j = 1 ∨ j = 2) with rfl | rfl | rfl <;> rfl) (by decide) (by decide)⟩
  · exact ⟨_, _, hcell 3, row10 (l := [152, 128]) g4 (fun j hj => by have : j < 2 := hj; rcases (by omega : j = 0 ∨ j = 1) with rfl | rfl <;> rfl) (by decide) (by decide)⟩
theorem conv10 (w : World) (C : Array Value) (n : Nat) : (convert 30 30 (.slice (some ⟨w.heap.size, 0, none⟩) n n)).run Tryz.prog (w.alloc (.cells C 5)) = .ok (.slice (some ⟨w.heap.size, 0, none⟩) n n) (w.alloc (.cells C 5 (C.size, C.size + 1))) :=
  Lib.run_convert_bytes_const w 30 5 C n n Tryz.underlying30 Tryz.underlying5
set_option maxRecDepth 100000 in
set_option maxHeartbeats 4000000 in
theorem awake10_at (w : World) (hW : Wt w) : Calls Tryz.prog 9 #[] w fun y w' => y = .returned (.bool true) ∧ Below w.heap.size w w' := by
  have HW := hide fun (X : World) (hx : Below w.heap.size w X) => hW.below hx
  clear hW
  have c1 := conv10 w #[.int .u8 97, .int .u8 226] 2
  have c2 := conv10 (w.alloc (.cells #[.int .u8 97, .int .u8 226] 5 (2, 3))) #[.int .u8 130, .int .u8 172, .int .u8 13] 3
  have c3 := conv10 ((w.alloc (.cells #[.int .u8 97, .int .u8 226] 5 (2, 3))).alloc (.cells #[.int .u8 130, .int .u8 172, .int .u8 13] 5 (3, 4))) #[.int .u8 10, .int .u8 240, .int .u8 159] 3
  have c4 := conv10 (((w.alloc (.cells #[.int .u8 97, .int .u8 226] 5 (2, 3))).alloc (.cells #[.int .u8 130, .int .u8 172, .int .u8 13] 5 (3, 4))).alloc (.cells #[.int .u8 10, .int .u8 240, .int .u8 159] 5 (3, 4))) #[.int .u8 152, .int .u8 128] 2
  rw [World.size_alloc] at c2
  rw [World.size_alloc, World.size_alloc] at c3
  rw [World.size_alloc, World.size_alloc, World.size_alloc] at c4
  go_enter Tryz.func9, Tryz.ntmps9
  obtain ⟨hN, b0⟩ := ex10_rows w _ _ _ _ _ rfl rfl rfl rfl rfl
  have HRo := hide (Rope10_at (some ⟨w.heap.size + 1 + 1 + 1 + 1, 0, none⟩) 4 ex10 _ hN (by decide) (by decide) (unhide HW _ b0))
  rw [show ex10.length = 4 from rfl] at HRo
  have HB0 := hide b0
  clear hN b0
  go_wp2_with fail
  refine (unhide HRo).mono ?_
  rintro y w1 ⟨g, o, rfl, hr, ht, x1⟩
  dsimp only
  rw [ex10_flat] at ht
  have X1 := (unhide HB0).trans (x1.mono (unhide HB0).size)
  have hl : (txtO o).length ≤ 268435456 := by rw [ht]; decide
  have hT := To10_at g o 1 10 3 3 w1 hr hl (unhide HW w1 X1) rfl (fun X _ h => absurd rfl h)
  rw [ht, ex10_to.1, ex10_to.2] at hT
  have HT := hide hT
  have HR := hide hr
  have HX := hide (And.intro ht hl)
  clear c1 c2 c3 c4 hT HRo HB0 x1 hr ht hl
  go_wp2_with fail
  refine (unhide HT).mono ?_
  rintro y w2 ⟨rfl, x2⟩
  dsimp only
  have X2 := X1.trans (x2.mono X1.size)
  have hWh := Where10_at g o 6 w2 ((unhide HR).on x2) (unhide HX).2 (unhide HW w2 X2)
  rw [(unhide HX).1, ex10_wh] at hWh
  have HWh := hide hWh
  clear hWh HT HR HX x2 X1
  go_wp2_with fail
  refine (unhide HWh).mono ?_
  rintro y w3 ⟨rfl, x3⟩
  dsimp only
  have X3 := X2.trans (x3.mono X2.size)
  clear HWh x3 X2
  have b3 := (Below.refl w3.heap.size w3).alloc (Nat.le_refl _) (.cells #[.int .i64 6, .int .i64 4, .int .i64 4, .int .i64 1, .int .i64 0, .int .i64 0, .int .i64 0] 44)
  have HB := hide (X3.trans (b3.mono X3.size))
  clear b3 X3
  go_wp2_with fail
  go_ret
  exact ⟨rfl, unhide HB⟩
set_option maxRecDepth 100000 in
theorem eqW10 (w : World) : (binOp .eql 44 (.agg #[.int .i64 0, .int .i64 0, .int .i64 0, .int .i64 0, .int .i64 0, .int .i64 0, .int .i64 0]) (.agg #[.int .i64 0, .int .i64 0, .int .i64 0, .int .i64 0, .int .i64 0, .int .i64 0, .int .i64 0])).run Tryz.prog w = .ok (.bool true) w := by kernel_rfl
set_option maxRecDepth 100000 in
theorem eqS10 (w : World) : (binOp .eql 68 (.agg #[.int .i32 0, .int .i64 0, .bool false]) (.agg #[.int .i32 0, .int .i64 0, .bool false])).run Tryz.prog w = .ok (.bool true) w := by kernel_rfl
attribute [local go_sem] eqW10 eqS10
set_option maxRecDepth 100000 in
set_option maxHeartbeats 8000000 in
theorem SeekNil_any (a b c d e f : Int) (w : World) (_hk : AskW a b c d e f) (hW : Wt w) :
    Calls Tryz.prog 7 #[.agg #[.int .i64 a, .int .i64 b, .int .i64 c, .int .i64 d, .int .i64 e, .int .i64 f]] w fun y w' => y = .returned (.bool true) ∧ Below w.heap.size w w' := by
  clear _hk
  have b0 := (Below.refl w.heap.size w).alloc (Nat.le_refl _) (.cells #[.int .i64 a, .int .i64 b, .int .i64 c, .int .i64 d, .int .i64 e, .int .i64 f] 28)
  have g0 := push_get w (.cells #[.int .i64 a, .int .i64 b, .int .i64 c, .int .i64 d, .int .i64 e, .int .i64 f] 28)
  have HA := hide (awake10_at _ (hW.below b0))
  clear hW
  go_enter Tryz.func7, Tryz.ntmps7
  go_upto_region 1 with fail
  generalize w.alloc (.cells #[.int .i64 a, .int .i64 b, .int .i64 c, .int .i64 d, .int .i64 e, .int .i64 f] 28) = w0 at *
  go_wp2_with fail
  refine (unhide HA).mono ?_
  rintro y w1 ⟨rfl, x1⟩
  dsimp only
  have X1 := b0.trans (x1.mono b0.size)
  have g1 := bk9_on g0 x1
  obtain ⟨p0, p1, p2, p3, p4, p5, _⟩ := cells6 g1
  clear HA x1 b0 g0
  go_wp2_with fail
  refine (ToN10_at _ _ _ _ w1).mono ?_
  rintro y w2 ⟨rfl, x2⟩
  dsimp only
  have X2 := X1.trans (x2.mono X1.size)
  have g2 := bk9_on g1 x2
  clear p0 p1 p2 p3 p4 p5 x2 X1 g1
  obtain ⟨p0, p1, p2, p3, p4, p5, _⟩ := cells6 g2
  have hWN := fun p w => WhereN10_at p w
  unfold wh0 at hWN
  have HWN := hide hWN
  clear hWN
  go_wp2_with fail
  refine (unhide HWN _ w2).mono ?_
  rintro y w3 ⟨rfl, x3⟩
  dsimp only
  have X3 := X2.trans (x3.mono X2.size)
  have g3 := bk9_on g2 x3
  clear p0 p1 p2 p3 p4 p5 x3 X2 g2
  go_upto_region 5 with fail
  have b4 := (Below.refl w3.heap.size w3).alloc (Nat.le_refl _) (.cells #[.int .i64 0, .int .i64 0, .int .i64 0, .int .i64 0, .int .i64 0, .int .i64 0, .int .i64 0] 44)
  have k4 : Cls _ w3.heap.size 44 wh0 := Cls.new w3 44 #[.int .i64 0, .int .i64 0, .int .i64 0, .int .i64 0, .int .i64 0, .int .i64 0, .int .i64 0]
  generalize w3.alloc (.cells #[.int .i64 0, .int .i64 0, .int .i64 0, .int .i64 0, .int .i64 0, .int .i64 0, .int .i64 0] 44) = w4 at *
  have X4 := X3.trans (b4.mono X3.size)
  have g4 := bk9_on g3 b4
  clear b4 X3 g3
  generalize w3.heap.size = gW at *
  obtain ⟨p0, p1, p2, p3, p4, p5, _⟩ := cells6 g4
  go_wp2_with fail
  refine (AtN10_at _ _ _ _ w4).mono ?_
  rintro y w5 ⟨rfl, x5⟩
  dsimp only
  have X5 := X4.trans (x5.mono X4.size)
  have g5 := bk9_on g4 x5
  have k5 := k4.below x5 k4.lt
  clear p0 p1 p2 p3 p4 p5 x5 X4 g4 k4
  obtain ⟨p0, p1, p2, p3, p4, p5, _⟩ := cells6 g5
  go_wp2_with fail
  refine (LineN10_at _ w5).mono ?_
  rintro y w6 ⟨rfl, x6⟩
  dsimp only
  have X6 := X5.trans (x6.mono X5.size)
  have g6 := bk9_on g5 x6
  have k6 := k5.below x6 k5.lt
  clear p0 p1 p2 p3 p4 p5 x6 X5 g5 k5
  obtain ⟨p0, p1, p2, p3, p4, p5, _⟩ := cells6 g6
  go_wp2_with fail
  refine (FloorN10_at _ w6).mono ?_
  rintro y w7 ⟨rfl, x7⟩
  dsimp only
  have X7 := X6.trans (x7.mono X6.size)
  have g7 := bk9_on g6 x7
  have k7 := k6.below x7 k6.lt
  clear p0 p1 p2 p3 p4 p5 x7 X6 g6 k6
  obtain ⟨p0, p1, p2, p3, p4, p5, _⟩ := cells6 g7
  go_wp2_with fail
  refine (StepN10_at _ w7).mono ?_
  rintro y w8 ⟨rfl, x8⟩
  dsimp only
  have X8 := X7.trans (x8.mono X7.size)
  have g8 := bk9_on g7 x8
  have k8 := k7.below x8 k7.lt
  clear p0 p1 p2 p3 p4 p5 x8 X7 g7 k7
  go_upto_region 9 with fail
  have b9 := (Below.refl w8.heap.size w8).alloc (Nat.le_refl _) (.cells #[.int .i32 0, .int .i64 0, .bool false] 68)
  have g9 := push_get w8 (.cells #[.int .i32 0, .int .i64 0, .bool false] 68)
  generalize w8.alloc (.cells #[.int .i32 0, .int .i64 0, .bool false] 68) = w9 at *
  have X9 := X8.trans (b9.mono X8.size)
  have k9 := k8.below b9 k8.lt
  clear b9 X8 k8 g8
  generalize w8.heap.size = gS at *
  obtain ⟨q0, q1, q2, _⟩ := cells3S g9
  have cz := cells7 k9
  have z0 := cz 0 (by omega)
  have z1 := cz 1 (by omega)
  have z2 := cz 2 (by omega)
  have z3 := cz 3 (by omega)
  have z4' := cz 4 (by omega)
  have z5 := cz 5 (by omega)
  have z6 := cz 6 (by omega)
  have HX := hide X9
  clear cz k9 g9 X9 HWN
  go_wp2_with fail
  go_ret
  exact ⟨rfl, unhide HX⟩

end Go.Proofs.YtophdhpkinedgaaGreatDoor
end

section
namespace Go.Proofs.YtophdhpkinedgaaGreatDoor
open Go.ChangeShapes Go.WideShapes Go.ChangeAt Go.RowKit

def renW : Go.Shelf.Ren := ⟨fun n => n, fun | 5 => 5 | 119 => 233 | 138 => 235 | 139 => 236 | n => n, fun | 3 => 1 | 4 => 2 | n => n⟩
theorem first_eq : (Rows.laid_unicode_utf8_first : DataW Unit) = Lib.firstData := by kernel_rfl
theorem accept_eq : (Rows.laid_unicode_utf8_acceptRanges : DataW Unit) = Lib.acceptData := by kernel_rfl
theorem typesW : U8Types Tryz.prog renW := ⟨Tryz.underlying5, Tryz.underlying233, Tryz.underlying235, Tryz.underlying236⟩
theorem extraW : U8Extra Tryz.prog renW := ⟨by kernel_rfl, by kernel_rfl, by kernel_rfl, by kernel_rfl, by kernel_rfl, by kernel_rfl, by kernel_rfl⟩

theorem wt_of {W : World} (h : laidMetH Tryz.prog [("galley/octet.classes", Rows.laid_galley_octet_classes), ("unicode/utf8.acceptRanges", Rows.laid_unicode_utf8_acceptRanges), ("unicode/utf8.first", Rows.laid_unicode_utf8_first)] W) (hs : W.ShapedOpen Tryz.prog) : Wt W := by
  have h : laidMet Tryz.prog [("galley/octet.classes", Rows.laid_galley_octet_classes), ("unicode/utf8.acceptRanges", Rows.laid_unicode_utf8_acceptRanges), ("unicode/utf8.first", Rows.laid_unicode_utf8_first)] W := h
  have hf := Lib.laidMet.reads h (n := "unicode/utf8.first") (d := Rows.laid_unicode_utf8_first) (by simp)
  have ha := Lib.laidMet.reads h (n := "unicode/utf8.acceptRanges") (d := Rows.laid_unicode_utf8_acceptRanges) (by simp)
  rw [first_eq] at hf
  rw [accept_eq] at ha
  have hu := utf8Tabs_of_readsT typesW extraW hf ha
  have hm : ∃ m, W.cell? ⟨3, 0, none⟩ = some (.int .i64 m) :=
    cell_of_shapedOpen_int (zero := #[.int .i64 0]) (t := 3) hs (of_decide_eq_true (by kernel_rfl)) (by kernel_rfl) rfl (by kernel_rfl) (by kernel_rfl) Tryz.underlying3
  rw [laid_eq] at h
  have t := Lib.tabIs_of_head gTab gTabType Tryz.underlying219 Tryz.underlying5 cellsByte cellsTab h
  have hT : Tab W := by
    intro b h0 h1
    have hl : tab.length = 245 := by simp [tab]
    have := t.cell gTab b.toNat (by rw [hl]; omega)
    rw [this]
    have hb : b.toNat < 245 := by omega
    have e : tab.getD b.toNat 0 = cls b := by
      simp [tab, List.getD, hb, Int.toNat_of_nonneg h0]
    rw [e]
  have hms : 3 < W.heap.size := by
    obtain ⟨m, h2⟩ := hm
    rcases Nat.lt_or_ge 3 W.heap.size with e | e
    · exact e
    · simp [World.cell?, Array.getElem?_eq_none e] at h2
  have hts := hT.size
  exact ⟨hT, hu, hm, by omega⟩

/-- a []byte that came in reads as these bytes; nil has no room -/
theorem rowN_of_trod {H : Type} {enc : TypeId × Value → H} {W : World} {a0 : Option Addr} {len0 cap0 : Nat} {d0 : DataW H} {p0 : List MemPlace}
    (h0 : DataW.Trod enc Tryz.prog W 0 (fun _ => true) true 30 (Value.slice a0 len0 cap0) d0 p0)
    {ts : List TypeId} {ds : List (DataW H)} {j : Nat} (hsz : (DataW.weightsEach Tryz.prog ts ds).all (· ≤ reachBytes) = true) (ht : ts[j]? = some 30) (hd : ds[j]? = some d0) :
    ∃ l : List Int, len0 = l.length ∧ IsN W a0 cap0 l := by
  obtain ⟨l, hl, hB⟩ := row_of_trod h0 hsz ht hd
  refine ⟨l, hl, hB, fun e => ?_⟩
  obtain ⟨fuel, hf⟩ := h0
  rcases open_ints Tryz.underlying30 Tryz.underlying5 (by kernel_rfl) hf with ⟨hcs, _⟩ | ⟨x, l, c, zs, hcs, _⟩
  · simp [Value.cells] at hcs
    exact hcs.2.2
  · simp [Value.cells] at hcs
    rw [e] at hcs
    cases hcs.1

def tabF : List Int := (List.range 256).map fun (i : Nat) => ((Lib.firstT i : Nat) : Int)
def tabA : List Int := (List.range 16).flatMap fun (i : Nat) => [((Lib.accLo i : Nat) : Int), ((Lib.accHi i : Nat) : Int)]
noncomputable def laidWorldW (os : Os) : World :=
  { World.holding Tryz.prog os ⟨#[], #[], []⟩ with heap := ((((World.holding Tryz.prog os ⟨#[], #[], []⟩).heap.modify 0 fun
      | .cells _ t frozen => .cells (tab.map (Value.int .u8)).toArray t frozen
      | o => o).modify 1 fun
      | .cells _ t frozen => .cells (tabF.map (Value.int .u8)).toArray t frozen
      | o => o).modify 2 fun
      | .cells _ t frozen => .cells (tabA.map (Value.int .u8)).toArray t frozen
      | o => o) }
end Go.Proofs.YtophdhpkinedgaaGreatDoor
end

section
namespace Go.Proofs.YtophdhpkinedgaaGreatDoor
open Go.ChangeShapes Go.WideShapes Go.ChangeAt Go.RowKit
open Go.ChangeMaps (open_string shut_string)

set_option maxRecDepth 100000 in
theorem seekNil_contract (H : Type) (enc : TypeId × Value → H) (W : World) (base : Nat) (args : Array Value) (ds gs : List (DataW H)) (before : List MemPlace)
    (hval : ∀ (j : Nat) t v, Tryz.f7.params[j]? = some t → args[j]? = some v → Value.okWide Tryz.prog W .any base t v)
    (hW : DataW.Whole enc Tryz.prog Tryz.f7.params.toList Rows.seekNilSpec.vars false W args.toList ds gs before) (hL : laidMetH Tryz.prog Rows.seekNilRow.laid W) (hsh : W.ShapedOpen Tryz.prog) :
    Calls Tryz.prog 7 args W fun e W' => ∃ v, e = .returned v ∧ Rows.seekNilSpec.post enc Tryz.prog Tryz.f7 false true false false W args v W' := by
  have hW' := hW
  obtain ⟨p, q, hA0, hV, rfl, _, _⟩ := hW
  have hA : DataW.TrodAll enc Tryz.prog W 0 (fun _ => true) true Tryz.f7.params.toList args.toList ds p := hA0
  rw [Tryz.params7] at hA hval
  obtain ⟨v0, vs0, d0, ds0, p0, q0, hargs, rfl, rfl, h0, r0⟩ := trodAll_cons hA
  obtain ⟨rfl, rfl, rfl⟩ := trodAll_nil r0
  obtain rfl : args = #[v0] := by cases args; simp_all
  obtain ⟨rfl, rfl⟩ := trodVars_none hV
  have k0 := h0
  have lt0 : ∀ x ∈ p0, x.block < W.heap.size := by obtain ⟨m, hm⟩ := k0; exact DataW.trod_lt m _ _ _ hm
  obtain ⟨x0_0, x0_1, x0_2, x0_3, x0_4, x0_5, rfl, w0⟩ := ask10_of_trod (hval 0 28 v0 rfl rfl) h0
  clear hA0
  refine (SeekNil_any x0_0 x0_1 x0_2 x0_3 x0_4 x0_5 W w0 (wt_of hL hsh)).mono fun e W' ⟨he, bel⟩ => ?_
  subst he
  exact ⟨_, rfl, _, _, _, [], _, [], hW', trodAll_mk1 (shut_bool Tryz.underlying4 _), (trodAll_cons_mk (Below.trod laidOut (by kernel_rfl) (of_decide_eq_true (by kernel_rfl)) k0 bel lt0) trodAll_mk0), rfl, bel.frame _, fun h => by cases h⟩

theorem seekNil_met (os : Os) : laidMet Tryz.prog Rows.seekNilRow.laid ((laidWorldW os).forCall (fun _ _ => 0) ⟨#[], #[.agg #[.int .i64 0, .int .i64 0, .int .i64 0, .int .i64 0, .int .i64 0, .int .i64 0]], []⟩).memory :=
  laidMet_of_run' 8 (by kernel_rfl) (by kernel_rfl)
theorem seekNil_reads (os : Os) {H : Type} (enc : TypeId × Value → H) : ∃ places, DataW.whole enc Tryz.prog ((laidWorldW os).forCall (fun _ _ => 0) ⟨#[], #[.agg #[.int .i64 0, .int .i64 0, .int .i64 0, .int .i64 0, .int .i64 0, .int .i64 0]], []⟩).memory Tryz.f7.params.toList Rows.seekNilSpec.vars false (#[.agg #[.int .i64 0, .int .i64 0, .int .i64 0, .int .i64 0, .int .i64 0, .int .i64 0]] : Array Value).toList 8 = some ([.agg [.lit (.int .i64 0), .agg [.lit (.int .i64 0), .lit (.int .i64 0)], .lit (.int .i64 0), .lit (.int .i64 0), .lit (.int .i64 0)]], [], places) :=
  ⟨[], by kernel_rfl⟩

set_option maxRecDepth 100000 in
theorem seekNil_lifted (os : Os) (started : os.Started) (H : Type) (enc : TypeId × Value → H) (F : Stop.Interp) :
    ReturnsInHanded {} Tryz.checked os 7 .any ((OpenSpec.ofChange Rows.seekNilSpec).preRow enc Tryz.prog Tryz.f7 Rows.seekNilRow.domain false Rows.seekNilRow.laid) (((OpenSpec.ofChange Rows.seekNilSpec).at F).post enc Tryz.prog Tryz.f7 false true false false) := by
  obtain ⟨places, hx⟩ := seekNil_reads os enc
  refine returnsInHanded_of_row (C := Tryz.checked) (s := OpenSpec.ofChange Rows.seekNilSpec) ownC started (by kernel_rfl) Tryz.func7
    (witness_row_at (enc := enc) (C := Tryz.checked) false (laidWorldW os) #[.agg #[.int .i64 0, .int .i64 0, .int .i64 0, .int .i64 0, .int .i64 0, .int .i64 0]] rfl (by kernel_rfl) (by kernel_rfl) (by kernel_rfl)
      (OpenSpec.preRow_of_cond 8 hx (by kernel_rfl) (fun k hk => by cases hk) (by kernel_rfl) (seekNil_met os))) ?_
  intro W base args ds gs before hval hW _ _ _ hL hsh _
  exact seekNil_contract H enc W base args ds gs before hval hW hL hsh

theorem seekNil_said : Rows.SeekNilSaid :=
  OpenClaim.holds_of_cond 7 Tryz.f7 rfl rfl rfl rfl rfl rfl rfl ⟨rfl, rfl, rfl, rfl, rfl⟩ rfl rfl rfl rfl rfl (by kernel_rfl) Tryz.func7 (by kernel_rfl)
    (of_decide_eq_true (by kernel_rfl)) (by unfold Func.isWrapper; first | (rw [if_pos (by decide +kernel)]; kernel_rfl) | (rw [if_neg (by decide +kernel)]; exact ⟨rfl, rfl⟩))
    (fun os started H enc _ F => by rw [OpenClaim.pre_eq_preRow]; exact seekNil_lifted os started H enc F)

theorem seekNil_plain (f : FuncId) (fn : Func) (hf : Tryz.pinned.checked.prog.funcNamed "galley/galleylaw10.SeekNil" = some f) (hfn : Tryz.pinned.checked.prog.funcs[f]? = some fn) :
    true = Tryz.pinned.checked.prog.looks [] ∧ ∀ (j : Nat) t, fn.params[j]? = some t → Tryz.pinned.checked.prog.wantsStandIn t = false := by
  obtain rfl : f = 7 := Option.some.inj ((show Tryz.prog.funcNamed "galley/galleylaw10.SeekNil" = some 7 by kernel_rfl).symm.trans hf) |>.symm
  obtain rfl : fn = Tryz.f7 := (Option.some.inj (Tryz.func7.symm.trans hfn)).symm
  refine ⟨by kernel_rfl, fun j t ht => ?_⟩
  rw [Tryz.params7] at ht
  obtain rfl : t = 28 := by simpa using Array.mem_of_getElem? ht
  exact (show Tryz.prog.wantsStandIn 28 = false by kernel_rfl)

/-- the card -/
theorem seekNil_card : Rows.SeekNilCardSaid :=
  Claim7.holds_tied_plain_at .later [] _ _ _ _ seekNil_said (fun _ h => by cases h) (by kernel_rfl) (fun _ h => by cases h) seekNil_row_tie rfl ⟨rfl, rfl⟩ (by kernel_rfl) rfl seekNil_plain (by kernel_rfl)

#print axioms seekNil_card
end Go.Proofs.YtophdhpkinedgaaGreatDoor
end
