/- Layer 10: an argument that is an Ask: what came in is six numbers. · Layer 10's laws: awake; SeekNil's walk. · Layer 10's laws: Joined, Large; what SeekSteps asks of steps, in plain words. · Layer 10's laws: lists of byte strings put together. -/
import Derived.Test.YtophdhpkinedgaaGreatDoorSb40
import Derived.OpenShut
import Derived.Test.YtophdhpkinedgaaGreatDoorSb41
import Derived.Test.YtophdhpkinedgaaGreatDoorSb45

section
namespace Go.Proofs.YtophdhpkinedgaaGreatDoor
open Go.ChangeShapes Go.WideShapes Go.ChangeAt Go.RowKit

theorem one_intK {H : Type} {enc : TypeId × Value → H} {P : Program} {W : World} {spare : Nat → Bool} {m : Nat} {t : TypeId} (ht : P.underlying t = some (.int .i64)) {xs : List (DataW H × List MemPlace)} {L : List Value} {i k : Nat} (hi : i < xs.length)
    (h : DataW.trod enc P W 0 spare true m t ((L.drop k).take 1) = xs[i]?) : ∃ n : Int, L[k]? = some (.int .i64 n) ∧ (Lit.int .i64 n).wf = true := by
  rw [List.getElem?_eq_getElem hi] at h
  obtain ⟨n, hn, _, hw⟩ := DataW.trod_int ht h
  refine ⟨n, ?_, hw⟩
  have := congrArg (·[0]?) hn
  simpa [List.getElem?_take, List.getElem?_drop] using this
def AskW (a b c d e f : Int) : Prop := (Lit.int .i64 a).wf = true ∧ (Lit.int .i64 b).wf = true ∧ (Lit.int .i64 c).wf = true ∧ (Lit.int .i64 d).wf = true ∧ (Lit.int .i64 e).wf = true ∧ (Lit.int .i64 f).wf = true
set_option maxRecDepth 100000 in
theorem ask10_of_trod {H : Type} {enc : TypeId × Value → H} {W : World} {v : Value} {d0 : DataW H} {p0 : List MemPlace} {base : Nat} (hv : Value.okWide Tryz.prog W .any base 28 v)
    (h0 : DataW.Trod enc Tryz.prog W 0 (fun _ => true) true 28 v d0 p0) : ∃ a b c d e f : Int, v = .agg #[.int .i64 a, .int .i64 b, .int .i64 c, .int .i64 d, .int .i64 e, .int .i64 f] ∧ AskW a b c d e f := by
  obtain ⟨cs, rfl, hs⟩ := okWide_struct Tryz.underlying28 hv
  obtain ⟨fuel, hf⟩ := h0
  obtain ⟨xs, n, _, _, _, hx, hall⟩ := DataW.trod_struct Tryz.underlying28 hf
  have hs' : cs.size = 6 := hs.trans (by kernel_rfl)
  have hx' : xs.length = 5 := hx
  have hl : cs.toList.length = 6 := by simpa using hs'
  have hc : Tryz.prog.cellsOf 3 = 1 := by kernel_rfl
  have hc2 : Tryz.prog.cellsOf 24 = 2 := by kernel_rfl
  have hc3 : Tryz.prog.cellsOf 25 = 1 := by kernel_rfl
  have hc4 : Tryz.prog.cellsOf 26 = 1 := by kernel_rfl
  have g0 : DataW.trod enc Tryz.prog W 0 (fun _ => true) true n 3 ((cs.toList.drop 0).take (Tryz.prog.cellsOf 3)) = xs[0]? := hall 0 _ rfl
  have g1 : DataW.trod enc Tryz.prog W 0 (fun _ => true) true n 24 ((cs.toList.drop 1).take (Tryz.prog.cellsOf 24)) = xs[1]? := hall 1 _ rfl
  have g2 : DataW.trod enc Tryz.prog W 0 (fun _ => true) true n 25 ((cs.toList.drop 3).take (Tryz.prog.cellsOf 25)) = xs[2]? := hall 2 _ rfl
  have g3 : DataW.trod enc Tryz.prog W 0 (fun _ => true) true n 25 ((cs.toList.drop 4).take (Tryz.prog.cellsOf 25)) = xs[3]? := hall 3 _ rfl
  have g4 : DataW.trod enc Tryz.prog W 0 (fun _ => true) true n 26 ((cs.toList.drop 5).take (Tryz.prog.cellsOf 26)) = xs[4]? := hall 4 _ rfl
  rw [hc2, List.getElem?_eq_getElem (show 1 < xs.length by omega)] at g1
  rw [hc] at g0
  rw [hc3] at g2 g3
  rw [hc4] at g4
  obtain ⟨ys, k, _, _, _, hy, hall2⟩ := DataW.trod_struct Tryz.underlying24 g1
  have hy' : ys.length = 2 := hy
  have j0 : DataW.trod enc Tryz.prog W 0 (fun _ => true) true k 3 ((((cs.toList.drop 1).take 2).drop 0).take (Tryz.prog.cellsOf 3)) = ys[0]? := hall2 0 _ rfl
  have j1 : DataW.trod enc Tryz.prog W 0 (fun _ => true) true k 3 ((((cs.toList.drop 1).take 2).drop 1).take (Tryz.prog.cellsOf 3)) = ys[1]? := hall2 1 _ rfl
  rw [hc] at j0 j1
  obtain ⟨a, e0, w0⟩ := one_intK Tryz.underlying3 (by omega) g0
  obtain ⟨b, e1, w1⟩ := one_intK Tryz.underlying3 (by omega) j0
  obtain ⟨c, e2, w2⟩ := one_intK Tryz.underlying3 (by omega) j1
  obtain ⟨d, e3, w3⟩ := one_intK Tryz.underlying25 (by omega) g2
  obtain ⟨e, e4, w4⟩ := one_intK Tryz.underlying25 (by omega) g3
  obtain ⟨f, e5, w5⟩ := one_intK Tryz.underlying26 (by omega) g4
  refine ⟨a, b, c, d, e, f, ?_, w0, w1, w2, w3, w4, w5⟩
  congr 1
  apply Array.ext'
  apply List.ext_getElem?
  intro i
  match i with
  | 0 => exact e0
  | 1 => rw [show cs.toList[1]? = ((cs.toList.drop 1).take 2)[0]? by simp]; exact e1
  | 2 => rw [show cs.toList[2]? = ((cs.toList.drop 1).take 2)[1]? by simp]; exact e2
  | 3 => exact e3
  | 4 => exact e4
  | 5 => exact e5
  | i + 6 => rw [List.getElem?_eq_none (by omega)]; rfl
end Go.Proofs.YtophdhpkinedgaaGreatDoor
end

section
namespace Go.Proofs.YtophdhpkinedgaaGreatDoor
open Go.ChangeShapes Go.WideShapes Go.ChangeAt Go.RowKit
attribute [local go_sem] Oper.semAt_some

/-- the document's example, in pieces -/
def ex10 : List (List Int) := [[97, 226], [130, 172, 13], [10, 240, 159], [152, 128]]
def exT10 : List Int := [97, 226, 130, 172, 13, 10, 240, 159, 152, 128]
theorem ex10_flat : ex10.flatten = exT10 := rfl
theorem ex10_to : (toP 1 10 3 3 (EE exT10) : Int) = 6 ∧ toR 1 10 3 3 (EE exT10) = 0 := by decide +kernel
theorem ex10_wh : whV exT10 6 = .tuple #[.agg #[.int .i64 6, .int .i64 4, .int .i64 4, .int .i64 1, .int .i64 0, .int .i64 0, .int .i64 0], .int .i64 0] := by kernel_rfl
/-- bytes in a block of their own -/
theorem row10 {W : World} {g : Nat} {l : List Int} {cs : Array Value} {q : Nat × Nat} (hg : W.heap[g]? = some (.cells cs 5 q)) (hc : ∀ j, j < l.length → cs[j]? = some (.int .u8 (l.getD j 0))) (hl : ∀ x ∈ l, 0 ≤ x ∧ x ≤ 255) (hn : l.length ≤ 1000) : IsN W (some ⟨g, 0, none⟩) l.length l := by
  refine ⟨⟨Nat.le_refl _, by omega, Or.inr ⟨g, 0, rfl, fun j hj => ⟨?_, ?_⟩⟩, hl⟩, fun e => by cases e⟩
  · simp only [World.cell?, hg, Nat.zero_add]
    exact hc j hj
  · have : l.getD j 0 ∈ l := by rw [List.getD_eq_getElem?_getD, List.getElem?_eq_getElem hj]; exact List.getElem_mem hj
    exact hl _ this
theorem ex10_rows (w : World) (o1 o2 o3 o4 o5 : Obj) (h1 : o1 = .cells #[.int .u8 97, .int .u8 226] 5 (2, 3)) (h2 : o2 = .cells #[.int .u8 130, .int .u8 172, .int .u8 13] 5 (3, 4)) (h3 : o3 = .cells #[.int .u8 10, .int .u8 240, .int .u8 159] 5 (3, 4)) (h4 : o4 = .cells #[.int .u8 152, .int .u8 128] 5 (2, 3))
    (h5 : o5 = .cells #[.slice (some ⟨w.heap.size, 0, none⟩) 2 2, .slice (some ⟨w.heap.size + 1, 0, none⟩) 3 3, .slice (some ⟨w.heap.size + 1 + 1, 0, none⟩) 3 3, .slice (some ⟨w.heap.size + 1 + 1 + 1, 0, none⟩) 2 2] 30) :
    IsNN (((((w.alloc o1).alloc o2).alloc o3).alloc o4).alloc o5) (some ⟨w.heap.size + 1 + 1 + 1 + 1, 0, none⟩) ex10 ∧ Below w.heap.size w (((((w.alloc o1).alloc o2).alloc o3).alloc o4).alloc o5) := by
  have b1 : Below w.heap.size w (w.alloc o1) := (Below.refl _ _).alloc (Nat.le_refl _) _
  have b2 : Below (w.alloc o1).heap.size (w.alloc o1) ((w.alloc o1).alloc o2) := (Below.refl _ _).alloc (Nat.le_refl _) _
  have b3 : Below ((w.alloc o1).alloc o2).heap.size ((w.alloc o1).alloc o2) (((w.alloc o1).alloc o2).alloc o3) := (Below.refl _ _).alloc (Nat.le_refl _) _
  have b4 : Below (((w.alloc o1).alloc o2).alloc o3).heap.size (((w.alloc o1).alloc o2).alloc o3) ((((w.alloc o1).alloc o2).alloc o3).alloc o4) := (Below.refl _ _).alloc (Nat.le_refl _) _
  have b5 : Below ((((w.alloc o1).alloc o2).alloc o3).alloc o4).heap.size ((((w.alloc o1).alloc o2).alloc o3).alloc o4) (((((w.alloc o1).alloc o2).alloc o3).alloc o4).alloc o5) := (Below.refl _ _).alloc (Nat.le_refl _) _
  have g1 := bk9_on (bk9_on (bk9_on (bk9_on (push_get w o1) b2) b3) b4) b5
  have g2 := bk9_on (bk9_on (bk9_on (push_get (w.alloc o1) o2) b3) b4) b5
  have g3 := bk9_on (bk9_on (push_get ((w.alloc o1).alloc o2) o3) b4) b5
  have g4 := bk9_on (push_get (((w.alloc o1).alloc o2).alloc o3) o4) b5
  have g5 := push_get ((((w.alloc o1).alloc o2).alloc o3).alloc o4) o5
  have B := (((b1.trans (b2.mono b1.size)).trans (b3.mono (Nat.le_trans b1.size b2.size))).trans (b4.mono (Nat.le_trans (Nat.le_trans b1.size b2.size) b3.size))).trans (b5.mono (Nat.le_trans (Nat.le_trans (Nat.le_trans b1.size b2.size) b3.size) b4.size))
  have zs : (((((w.alloc o1).alloc o2).alloc o3).alloc o4).alloc o5).heap.size = w.heap.size + 1 + 1 + 1 + 1 + 1 := by simp only [World.size_alloc]
  simp only [World.size_alloc] at g2 g3 g4 g5
  clear b1 b2 b3 b4 b5
  generalize (((((w.alloc o1).alloc o2).alloc o3).alloc o4).alloc o5) = W at *
  subst h1 h2 h3 h4 h5
  refine ⟨Or.inr ⟨_, 0, rfl, by omega, fun r hr => ?_⟩, B⟩
  have hr4 : r < 4 := hr
  have hcell : ∀ j, W.cell? ⟨w.heap.size + 1 + 1 + 1 + 1, 0 + j, none⟩ = (#[Value.slice (some ⟨w.heap.size, 0, none⟩) 2 2, .slice (some ⟨w.heap.size + 1, 0, none⟩) 3 3, .slice (some ⟨w.heap.size + 1 + 1, 0, none⟩) 3 3, .slice (some ⟨w.heap.size + 1 + 1 + 1, 0, none⟩) 2 2] : Array Value)[j]? := fun j => by
    simp only [World.cell?, g5, Nat.zero_add]
    rfl
  rcases (by omega : r = 0 ∨ r = 1 ∨ r = 2 ∨ r = 3) with rfl | rfl | rfl | rfl
  · exact ⟨_, _, hcell 0, row10 (l := [97, 226]) g1 (fun j hj => by have : j < 2 := hj; rcases (by omega : j = 0 ∨ j = 1) with rfl | rfl <;> rfl) (by decide) (by decide)⟩
  · exact ⟨_, _, hcell 1, row10 (l := [130, 172, 13]) g2 (fun j hj => by have : j < 3 := hj; rcases (by omega : j = 0 ∨ j = 1 ∨ j = 2) with rfl | rfl | rfl <;> rfl) (by decide) (by decide)⟩
  · exact ⟨_, _, hcell 2, row10 (l := [10, 240, 159]) g3 (fun j hj => by have : j < 3 := hj; rcases (by omega : j = 0 ∨ j = 1 ∨ j = 2) with rfl | rfl | rfl <;> rfl) (by decide) (by decide)⟩
  · exact ⟨_, _, hcell 3, row10 (l := [152, 128]) g4 (fun j hj => by have : j < 2 := hj; rcases (by omega : j = 0 ∨ j = 1) with rfl | rfl <;> rfl) (by decide) (by decide)⟩
theorem conv10 (w : World) (C : Array Value) (n : Nat) : (convert 30 30 (.slice (some ⟨w.heap.size, 0, none⟩) n n)).run Tryz.prog (w.alloc (.cells C 5)) = .ok (.slice (some ⟨w.heap.size, 0, none⟩) n n) (w.alloc (.cells C 5 (C.size, C.size + 1))) :=
  Lib.run_convert_bytes_const w 30 5 C n n Tryz.underlying30 Tryz.underlying5
set_option maxRecDepth 100000 in
set_option maxHeartbeats 4000000 in
theorem awake10_at (w : World) (hW : Wt w) : Calls Tryz.prog 9 #[] w fun y w' => y = .returned (.bool true) ∧ Below w.heap.size w w' := by
  have HW := hide fun (X : World) (hx : Below w.heap.size w X) => hW.below hx
  clear hW
  have c1 := conv10 w #[.int .u8 97, .int .u8 226] 2
  have c2 := conv10 (w.alloc (.cells #[.int .u8 97, .int .u8 226] 5 (2, 3))) #[.int .u8 130, .int .u8 172, .int .u8 13] 3
  have c3 := conv10 ((w.alloc (.cells #[.int .u8 97, .int .u8 226] 5 (2, 3))).alloc (.cells #[.int .u8 130, .int .u8 172, .int .u8 13] 5 (3, 4))) #[.int .u8 10, .int .u8 240, .int .u8 159] 3
  have c4 := conv10 (((w.alloc (.cells #[.int .u8 97, .int .u8 226] 5 (2, 3))).alloc (.cells #[.int .u8 130, .int .u8 172, .int .u8 13] 5 (3, 4))).alloc (.cells #[.int .u8 10, .int .u8 240, .int .u8 159] 5 (3, 4))) #[.int .u8 152, .int .u8 128] 2
  rw [World.size_alloc] at c2
  rw [World.size_alloc, World.size_alloc] at c3
  rw [World.size_alloc, World.size_alloc, World.size_alloc] at c4
  go_enter Tryz.func9, Tryz.ntmps9
  obtain ⟨hN, b0⟩ := ex10_rows w _ _ _ _ _ rfl rfl rfl rfl rfl
  have HRo := hide (Rope10_at (some ⟨w.heap.size + 1 + 1 + 1 + 1, 0, none⟩) 4 ex10 _ hN (by decide) (by decide) (unhide HW _ b0))
  rw [show ex10.length = 4 from rfl] at HRo
  have HB0 := hide b0
  clear hN b0
  go_wp2_with fail
  refine (unhide HRo).mono ?_
  rintro y w1 ⟨g, o, rfl, hr, ht, x1⟩
  dsimp only
  rw [ex10_flat] at ht
  have X1 := (unhide HB0).trans (x1.mono (unhide HB0).size)
  have hl : (txtO o).length ≤ 268435456 := by rw [ht]; decide
  have hT := To10_at g o 1 10 3 3 w1 hr hl (unhide HW w1 X1) rfl (fun X _ h => absurd rfl h)
  rw [ht, ex10_to.1, ex10_to.2] at hT
  have HT := hide hT
  have HR := hide hr
  have HX := hide (And.intro ht hl)
  clear c1 c2 c3 c4 hT HRo HB0 x1 hr ht hl
  go_wp2_with fail
  refine (unhide HT).mono ?_
  rintro y w2 ⟨rfl, x2⟩
  dsimp only
  have X2 := X1.trans (x2.mono X1.size)
  have hWh := Where10_at g o 6 w2 ((unhide HR).on x2) (unhide HX).2 (unhide HW w2 X2)
  rw [(unhide HX).1, ex10_wh] at hWh
  have HWh := hide hWh
  clear hWh HT HR HX x2 X1
  go_wp2_with fail
  refine (unhide HWh).mono ?_
  rintro y w3 ⟨rfl, x3⟩
  dsimp only
  have X3 := X2.trans (x3.mono X2.size)
  clear HWh x3 X2
  have b3 := (Below.refl w3.heap.size w3).alloc (Nat.le_refl _) (.cells #[.int .i64 6, .int .i64 4, .int .i64 4, .int .i64 1, .int .i64 0, .int .i64 0, .int .i64 0] 44)
  have HB := hide (X3.trans (b3.mono X3.size))
  clear b3 X3
  go_wp2_with fail
  go_ret
  exact ⟨rfl, unhide HB⟩
set_option maxRecDepth 100000 in
theorem eqW10 (w : World) : (binOp .eql 44 (.agg #[.int .i64 0, .int .i64 0, .int .i64 0, .int .i64 0, .int .i64 0, .int .i64 0, .int .i64 0]) (.agg #[.int .i64 0, .int .i64 0, .int .i64 0, .int .i64 0, .int .i64 0, .int .i64 0, .int .i64 0])).run Tryz.prog w = .ok (.bool true) w := by kernel_rfl
set_option maxRecDepth 100000 in
theorem eqS10 (w : World) : (binOp .eql 68 (.agg #[.int .i32 0, .int .i64 0, .bool false]) (.agg #[.int .i32 0, .int .i64 0, .bool false])).run Tryz.prog w = .ok (.bool true) w := by kernel_rfl
attribute [local go_sem] eqW10 eqS10
end Go.Proofs.YtophdhpkinedgaaGreatDoor
end

section
namespace Go.Proofs.YtophdhpkinedgaaGreatDoor
open Go.ChangeShapes Go.WideShapes Go.ChangeAt Go.RowKit
attribute [local go_sem] Oper.semAt_some

structure JoI (w : World) (ls : List (List Int)) (k : Nat) (v : Value) (X : World) : Prop where
  o : Own X w.heap.size v (ls.take k).flatten
  d : Below w.heap.size w X
set_option maxRecDepth 100000 in
set_option maxHeartbeats 4000000 in
theorem Joined10_at (a0 : Option Addr) (cap : Nat) (ls : List (List Int)) (w : World) (h : IsNN w a0 ls) (hs : ls.flatten.length ≤ 268435456) (hlen : ls.length ≤ 4611686018427387904) :
    Calls Tryz.prog 10 #[.slice a0 ls.length cap] w fun y w' => ∃ v, y = .returned v ∧ Own w' w.heap.size v ls.flatten ∧ Below w.heap.size w w' := by
  have HP := hide fun (X : World) (hx : Below w.heap.size w X) => h.below hx (Nat.le_refl _)
  have HS := hide hs
  have b0 : Below w.heap.size w (w.alloc (.cells #[] 5)) := (Below.refl _ _).alloc (Nat.le_refl _) _
  have i0 : JoI w ls 0 (.slice (some ⟨w.heap.size, 0, none⟩) 0 0) (w.alloc (.cells #[] 5)) := ⟨own_lit0S w, b0⟩
  clear h hs b0
  go_enter Tryz.func10, Tryz.ntmps10
  go_wp2_with fail
  generalize w.alloc (.cells #[] 5) = w0 at *
  go_loopw [3, 4] (fun v3 v4 wx => ∃ (k : Nat), v4 = .int .i64 (k : Int) ∧ k ≤ ls.length ∧ Hid (JoI w ls k v3 wx)) (fun _ i _ => ls.length - (intOf i).toNat)
  case atStart => exact ⟨0, rfl, Nat.zero_le _, hide i0⟩
  case round =>
    clear i0
    obtain ⟨k, rfl, hk, HI⟩ := hrel
    rename_i v3
    by_cases c : k < ls.length
    · have t1 : (k : Int) < (ls.length : Int) := by omega
      have d1 : decide ((k : Int) < (ls.length : Int)) = true := decide_eq_true t1
      have hI := unhide HI
      rcases unhide HP wr hI.d with hnil | ⟨ga, off, rfl, hga, hrow⟩
      · rw [hnil] at c; exact absurd c (Nat.not_lt_zero _)
      · obtain ⟨A, C, hcell, hN⟩ := hrow k c
        have hle := flat_take ls c
        clear hrow
        generalize ls.getD k [] = pc at *
        have hle2 := flat_le ls (k + 1)
        have hlp : ((ls.take k).flatten).length + pc.length ≤ 268435456 := by
          have := unhide HS
          rw [hle, List.length_append] at hle2
          omega
        obtain ⟨v', W', r1, r2, r3, _⟩ := appG 30 hI.o hI.d.size hN.1 hlp
        have i1 : JoI w ls (k + 1) v' W' := ⟨by rw [hle]; exact r2, hI.d.trans r3⟩
        have R1 := hide r1
        have HI1 := hide i1
        clear r1 r2 r3 hN hI hle hle2 hlp i1 hga
        have wk : wrap64 ((k : Int) + 1) = (k : Int) + 1 := wrap_in _ (by omega) (by omega)
        go_wp2_with (at_builtin; refine wpList_append_known rfl _ _ 30 30 rfl _ _ rfl rfl _ _ (unhide R1) ?_)
        go_roundw
        case rel => exact ⟨k + 1, by push_cast; rfl, by omega, HI1⟩
        case measure => simp only [intOf]; omega
    · have t1 : ¬ (k : Int) < (ls.length : Int) := by omega
      have d1 : decide ((k : Int) < (ls.length : Int)) = false := decide_eq_false t1
      have hkk : k = ls.length := by omega
      have HK := hide hkk
      clear hkk
      go_wp2_with fail
      refine bodyPost_ret (results_tmp rfl _ _ _) rfl ?_
      have hI := unhide HI
      exact ⟨_, rfl, by have := hI.o; rw [unhide HK, List.take_length] at this; exact this, hI.d⟩
set_option maxRecDepth 100000 in
theorem Large10_at (a0 : Option Addr) (n cap : Nat) (w : World) (hn : n ≤ 4611686018427387904) : Calls Tryz.prog 11 #[.slice a0 n cap] w fun y w' => y = .returned (.bool (decide (400 < n))) ∧ Below w.heap.size w w' := by
  by_cases h : 400 < n
  · have d1 : decide ((400 : Int) < (n : Int)) = true := decide_eq_true (by omega)
    have d2 : decide ((n : Int) > 400) = true := decide_eq_true (by omega)
    have d3 : decide (400 < n) = true := decide_eq_true h
    rw [d3]
    clear hn
    go_enter Tryz.func11, Tryz.ntmps11
    go_wp2_with fail
    go_ret
    exact ⟨ret_bool (by simp), Below.refl _ _⟩
  · have d1 : decide ((400 : Int) < (n : Int)) = false := decide_eq_false (by omega)
    have d3 : decide (400 < n) = false := decide_eq_false h
    rw [d3]
    clear hn
    go_enter Tryz.func11, Tryz.ntmps11
    go_wp2_with fail
    go_ret
    exact ⟨ret_bool (by simp), Below.refl _ _⟩
end Go.Proofs.YtophdhpkinedgaaGreatDoor
end

section
namespace Go.Proofs.YtophdhpkinedgaaGreatDoor
open Go.ChangeShapes Go.WideShapes Go.ChangeAt Go.RowKit
attribute [local go_sem] Oper.semAt_some

set_option maxRecDepth 100000 in
theorem info_rows : ∃ i, Tryz.prog.info? 30 = some i ∧ i.zero = some (.slice none 0 0) ∧ i.size = 1 ∧ i.bytes = 24 := by
  refine ⟨_, rfl, ?_, ?_, ?_⟩ <;> rfl
def OwnS (w : World) (B : Nat) (v : Value) (vs : List Value) : Prop := w.ownsRow B 30 1 v vs.length vs
/-- slices that read as byte strings -/
def RowsV (X : World) (vs : List Value) (ls : List (List Int)) : Prop := vs.length = ls.length ∧ ∀ k, k < ls.length → ∃ A C, vs[k]? = some (.slice A (ls.getD k []).length C) ∧ IsN X A C (ls.getD k [])
theorem RowsV.on {X Y : World} {vs : List Value} {ls : List (List Int)} (h : RowsV X vs ls) (hb : Below X.heap.size X Y) : RowsV Y vs ls :=
  ⟨h.1, fun k hk => by obtain ⟨A, C, h1, h2⟩ := h.2 k hk; exact ⟨A, C, h1, h2.below hb (Nat.le_refl _)⟩⟩
theorem RowsV.app {X : World} {vs us : List Value} {ls ms : List (List Int)} (h : RowsV X vs ls) (h' : RowsV X us ms) : RowsV X (vs ++ us) (ls ++ ms) := by
  refine ⟨by rw [List.length_append, List.length_append, h.1, h'.1], fun k hk => ?_⟩
  rw [List.length_append] at hk
  by_cases c : k < ls.length
  · obtain ⟨A, C, h1, h2⟩ := h.2 k c
    have e : (ls ++ ms).getD k [] = ls.getD k [] := by rw [List.getD_eq_getElem?_getD, List.getElem?_append_left c, ← List.getD_eq_getElem?_getD]
    rw [e]
    exact ⟨A, C, by rw [List.getElem?_append_left (by rw [h.1]; exact c)]; exact h1, h2⟩
  · obtain ⟨A, C, h1, h2⟩ := h'.2 (k - ls.length) (by omega)
    have e : (ls ++ ms).getD k [] = ms.getD (k - ls.length) [] := by rw [List.getD_eq_getElem?_getD, List.getElem?_append_right (by omega), ← List.getD_eq_getElem?_getD]
    rw [e]
    exact ⟨A, C, by rw [List.getElem?_append_right (by rw [h.1]; omega), h.1]; exact h1, h2⟩
theorem RowsV.one {X : World} {A : Option Addr} {C : Nat} {l : List Int} (h : IsN X A C l) : RowsV X [.slice A l.length C] [l] :=
  ⟨rfl, fun k hk => by obtain rfl : k = 0 := by simpa using hk
                       exact ⟨A, C, rfl, h⟩⟩
/-- the rows that came in, as slices -/
theorem rows_in {X : World} {a0 : Option Addr} {ls : List (List Int)} (h : IsNN X a0 ls) : ∃ us, RowsV X us ls ∧ (ls = [] ∨ ∃ g off, a0 = some ⟨g, off, none⟩ ∧ g < X.heap.size ∧ ∀ j u, us[j]? = some u → X.cell? ⟨g, off + j, none⟩ = some u) ∧ ∀ u ∈ us, u.oneCell' = true := by
  rcases h with rfl | ⟨g, off, rfl, hg, hr⟩
  · exact ⟨[], ⟨rfl, fun k hk => by cases hk⟩, .inl rfl, fun u hu => by cases hu⟩
  · refine ⟨(List.range ls.length).map fun r => (X.cell? ⟨g, off + r, none⟩).getD undef, ⟨by simp, fun k hk => ?_⟩, .inr ⟨g, off, rfl, hg, fun j u hj => ?_⟩, fun u hu => ?_⟩
    · obtain ⟨A, C, h1, h2⟩ := hr k hk
      exact ⟨A, C, by simp [hk, h1], h2⟩
    · have hjl : j < ls.length := by
        have := (List.getElem?_eq_some_iff.1 hj).1
        simpa using this
      obtain ⟨A, C, h1, _⟩ := hr j hjl
      rw [List.getElem?_map, List.getElem?_range hjl, Option.map_some, h1] at hj
      rw [h1]
      exact hj
    · obtain ⟨r, hr1, rfl⟩ := List.mem_map.1 hu
      obtain ⟨A, C, h1, _⟩ := hr r (List.mem_range.1 hr1)
      rw [h1]
      rfl
/-- an append of slices to a row of one's own -/
theorem appR {W : World} {B : Nat} {v : Value} {vs us : List Value} {a0 : Option Addr} {n cap : Nat} (ty : TypeId) (h : OwnS W B v vs) (hB : B ≤ W.heap.size) (hn : n = us.length) (hsrc : us = [] ∨ ∃ g off, a0 = some ⟨g, off, none⟩ ∧ ∀ j u, us[j]? = some u → W.cell? ⟨g, off + j, none⟩ = some u) (h1 : ∀ u ∈ us, u.oneCell' = true) (hb : (vs.length + us.length) * 24 ≤ 140737488355328) (hv : 0 < vs.length) :
    ∃ v' W', (Builtin.append_ #[22, 22] ty #[v, .slice a0 n cap]).run Tryz.prog W = .ok v' W' ∧ OwnS W' B v' (vs ++ us) ∧ Below B W W' ∧ W.grownBy W' v.ownBlock := by
  obtain ⟨i, hi, hz, hs, hby⟩ := info_rows
  subst hn
  rcases Nat.eq_zero_or_pos us.length with h0 | h0
  · obtain rfl : us = [] := List.length_eq_zero_iff.1 h0
    have hsr : Src Tryz.prog i.size 22 (.slice a0 0 cap) 0 [] W := by
      cases a0 with
      | none => exact Src.ofNil W Tryz.underlying22 cap
      | some x => exact Src.ofSlice W Tryz.underlying22 x 0 cap [] (by simp) (fun j u h => by simp at h) (fun u h => by cases h)
    refine ⟨v, W, ?_, by simpa using h, Below.refl _ _, ⟨rfl, rfl, rfl, Nat.le_refl _, fun _ _ _ => rfl⟩⟩
    rcases h.2 with ⟨rfl, h0⟩ | ⟨g, c, cur, rfl, hB, hg, hle, hm, hsz, htk⟩
    · rw [h0] at hv; cases hv
    · have := run_append_room_src (P := Tryz.prog) W 22 22 ty 30 i Tryz.underlying22 hi g 0 vs.length c (.slice a0 0 cap) 0 [] hsr (by omega) (fun j hj => absurd hj (Nat.not_lt_zero _)) (fun j hj => absurd hj (Nat.not_lt_zero _))
      simpa [World.setCells] using this
  · rcases hsrc with h' | ⟨g, off, rfl, hL⟩
    · rw [h'] at h0; cases h0
    · obtain ⟨g', k, W', hrun, ho, hg, hor, _⟩ := run_append_lies (P := Tryz.prog) W 22 ty B 30 i _ 1 24 Tryz.underlying22 hi hz hs hby rfl (by decide) v vs.length vs h ⟨g, off, none⟩ us.length cap us (by simp)
        (fun j u hj => by rw [Addr.add_lit]; exact hL j u hj) h1 h0 (by unfold maxLen; omega) hb hB _ rfl
      refine ⟨_, W', hrun, by unfold OwnS; rw [List.length_append]; exact ho, (Below.refl B W).grown hg hB (fun k hk => (World.ownsRow.lt h k hk).1), hg⟩
theorem OwnS.nn {W : World} {B : Nat} {v : Value} {vs : List Value} {ls : List (List Int)} (h : OwnS W B v vs) (hr : RowsV W vs ls) : ∃ a c, v = .slice a ls.length c ∧ IsNN W a ls := by
  have hc := h
  rcases h.2 with ⟨rfl, h0⟩ | ⟨g, cap, cur, rfl, _, hg, hle, _⟩
  · have : ls = [] := List.length_eq_zero_iff.1 (by rw [← hr.1]; exact h0)
    subst this
    exact ⟨none, 0, by simp, .inl rfl⟩
  · refine ⟨_, cap, by rw [← hr.1], .inr ⟨g, 0, rfl, (Array.getElem?_eq_some_iff.1 hg).1, fun k hk => ?_⟩⟩
    obtain ⟨A, C, h1, h2⟩ := hr.2 k hk
    refine ⟨A, C, ?_, h2⟩
    have := World.ownsRow.cells hc rfl k _ h1
    rwa [Addr.add_lit] at this
theorem OwnS.on {W Y : World} {B : Nat} {v : Value} {vs : List Value} (h : OwnS W B v vs) (hb : Below W.heap.size W Y) : OwnS Y B v vs := by
  rcases h with ⟨h1, h2⟩
  refine ⟨h1, ?_⟩
  rcases h2 with h2 | ⟨g, cap, cur, e, hB, hg, r⟩
  · exact .inl h2
  · exact .inr ⟨g, cap, cur, e, hB, bk9_on hg hb, r⟩
theorem IsN.keep {X Y : World} {A : Option Addr} {C : Nat} {l : List Int} (h : IsN X A C l) (hk : ∀ g off, A = some ⟨g, off, none⟩ → g < X.heap.size → Y.heap[g]? = X.heap[g]?) : IsN Y A C l := by
  refine ⟨⟨h.1.1, h.1.2.1, ?_, h.1.2.2.2⟩, h.2⟩
  rcases h.1.2.2.1 with h1 | ⟨g, off, e, hL⟩
  · exact .inl h1
  · refine .inr ⟨g, off, e, fun j hj => ?_⟩
    have := hL j hj
    have hlt : g < X.heap.size := by
      apply Classical.byContradiction
      intro hh
      have h2 := this.1
      simp [World.cell?, Array.getElem?_eq_none (show X.heap.size ≤ g by omega)] at h2
    exact ⟨(World.cell?_of_block (a := ⟨g, off + j, none⟩) (hk g off e hlt)).trans this.1, this.2⟩

end Go.Proofs.YtophdhpkinedgaaGreatDoor
end
