/- What the list of package-level variables gives: the table of classes holds its numbers; and a world for the witness. · The second form's bound: a []byte that came in has at most 1048576 places. · Lists of lists of bytes that came in under the second form's bound. · Lists of lists of bytes that came in under the second form's bound: nil ones have no room. · Layer 10's laws: a rope of pieces. -/
import Derived.Test.YtophdhpkinedgaaGreatDoorCards
import Derived.Test.YtophdhpkinedgaaGreatDoorTie
import Derived.Test.YtophdhpkinedgaaGreatDoorSb01
import Derived.SizedLaws
import Derived.Deep.DeepHandedRow
import Derived.Lib.LaidTab
import Derived.Test.YtophdhpkinedgaaGreatDoorSb05
import Derived.Deep.Matrix
import Derived.Test.YtophdhpkinedgaaGreatDoorSb15
import Derived.Test.YtophdhpkinedgaaGreatDoorSb46

section
namespace Go.Proofs.YtophdhpkinedgaaGreatDoor
open Go.ChangeShapes Go.WideShapes Go.ChangeAt Go.RowKit

def tab : List Int := (List.range 245).map fun (i : Nat) => cls (i : Int)
theorem laid_eq : (Rows.laid_galley_octet_classes : DataW Unit) = Lib.tabData .u8 tab := by kernel_rfl
theorem ownC : ownKnob Tryz.prog.godebug = none := by kernel_rfl
theorem gTab : Tryz.prog.globalNamed "galley/octet.classes" = some 0 := by kernel_rfl
theorem gTabType : (Tryz.prog.globals[0]?).map (·.type) = some 219 := by kernel_rfl
theorem cellsTab : Tryz.prog.cellsOf 219 = 245 := by kernel_rfl
theorem cellsByte : Tryz.prog.cellsOf 5 = 1 := by kernel_rfl

theorem laidOut : laidOutB Tryz.prog = true := by kernel_rfl

/-- a []byte that came in reads as these bytes -/
theorem row_of_trod {H : Type} {enc : TypeId × Value → H} {W : World} {a0 : Option Addr} {len0 cap0 : Nat} {d0 : DataW H} {p0 : List MemPlace}
    (h0 : DataW.Trod enc Tryz.prog W 0 (fun _ => true) true 30 (Value.slice a0 len0 cap0) d0 p0)
    {ts : List TypeId} {ds : List (DataW H)} {j : Nat} (hsz : (DataW.weightsEach Tryz.prog ts ds).all (· ≤ reachBytes) = true) (ht : ts[j]? = some 30) (hd : ds[j]? = some d0) :
    ∃ l : List Int, len0 = l.length ∧ IsB W a0 cap0 l := by
  obtain ⟨fuel, hf⟩ := h0
  rcases open_ints Tryz.underlying30 Tryz.underlying5 (by kernel_rfl) hf with ⟨hcs, _⟩ | ⟨x, l, c, zs, hcs, _, hl, hm, hz, hx, hcell, hwz⟩
  · simp [Value.cells] at hcs
    obtain ⟨rfl, rfl, rfl⟩ := hcs
    exact ⟨[], rfl, by simp, by simp, Or.inl rfl, by simp⟩
  · simp [Value.cells] at hcs
    obtain ⟨rfl, rfl, rfl⟩ := hcs
    simp only [Prod.mk.injEq] at hx
    obtain ⟨rfl, _⟩ := hx
    have hz' : zs.length = cap0 := by simpa using hz
    have hs := sized_slice hsz ht hd Tryz.underlying30
    rw [show Tryz.prog.bytesOf 5 = 1 by kernel_rfl] at hs
    have hr : reachBytes = 140737488351232 := rfl
    simp [lits] at hs
    have hlen : (zs.take len0).length = len0 := by simp; omega
    have hby : ∀ x ∈ zs, 0 ≤ x ∧ x ≤ 255 := fun n hn => bounds_u8 (hwz n hn)
    refine ⟨zs.take len0, hlen.symm, by rw [hlen]; omega, by rw [hlen]; omega, ?_, fun y hy => hby y (List.mem_of_mem_take hy)⟩
    rcases Nat.eq_zero_or_pos len0 with h0 | h0
    · subst h0; exact Or.inl rfl
    · obtain ⟨b, off, spot⟩ := x
      have hspot : spot = none := by simpa [Addr.add] using World.cell?_spot (hcell 0 (by omega))
      subst hspot
      refine Or.inr ⟨b, off, rfl, fun i hi => ?_⟩
      rw [hlen] at hi
      have e : (zs.take len0).getD i 0 = zs.getD i 0 := by simp [List.getD, hi]
      rw [e]
      have hc := hcell i (by omega)
      rw [Addr.add_lit] at hc
      refine ⟨hc, ?_⟩
      have := hby (zs[i]'(by omega)) (List.getElem_mem _)
      simpa [List.getD, List.getElem?_eq_getElem (show i < zs.length by omega)] using this

end Go.Proofs.YtophdhpkinedgaaGreatDoor
end

section
namespace Go.Proofs.YtophdhpkinedgaaGreatDoor
open Go.ChangeShapes Go.WideShapes Go.ChangeAt Go.RowKit

theorem bulk_pos {H : Type} (d : DataW H) : 0 < Rows.uptoBulk d := by
  cases d with
  | lit l => cases l <;> simp [Rows.uptoBulk]
  | _ => simp [Rows.uptoBulk]
theorem bulk_count {H : Type} : ∀ l : List (DataW H), l.length ≤ Rows.uptoBulkAll l
  | [] => Nat.zero_le _
  | d :: r => by
    have h1 := bulk_pos d
    have h2 := bulk_count r
    simp only [List.length_cons, Rows.uptoBulkAll]
    omega
theorem bulk_at {H : Type} : ∀ {l : List (DataW H)} {j : Nat} {d : DataW H}, l[j]? = some d → Rows.uptoBulk d ≤ Rows.uptoBulkAll l
  | [], _, _, h => by simp at h
  | e :: r, 0, d, h => by
    simp only [List.getElem?_cons_zero, Option.some.injEq] at h
    subst h
    simp only [Rows.uptoBulkAll]
    omega
  | e :: r, j + 1, d, h => by
    have := bulk_at (l := r) (j := j) (by simpa using h)
    simp only [Rows.uptoBulkAll]
    omega

/-- of a []byte that came in under the bound -/
theorem cap_of_bulk {H : Type} {enc : TypeId × Value → H} {W : World} {a0 : Option Addr} {len0 cap0 : Nat} {d0 : DataW H} {p0 : List MemPlace}
    (h0 : DataW.Trod enc Tryz.prog W 0 (fun _ => true) true 30 (Value.slice a0 len0 cap0) d0 p0)
    {ds : List (DataW H)} {j : Nat} (hk : Rows.uptoSmall H ds = true) (hd : ds[j]? = some d0) : cap0 ≤ 1048576 := by
  have hb : Rows.uptoBulkAll ds ≤ 1048576 := of_decide_eq_true hk
  have h1 := bulk_at hd
  obtain ⟨fuel, hf⟩ := h0
  rcases open_ints Tryz.underlying30 Tryz.underlying5 (by kernel_rfl) hf with ⟨hcs, _⟩ | ⟨x, l, c, zs, hcs, _, hl, hm, hz, hx, hcell, hwz⟩
  · simp [Value.cells] at hcs
    omega
  · simp [Value.cells] at hcs
    obtain ⟨rfl, rfl, rfl⟩ := hcs
    simp only [Prod.mk.injEq] at hx
    obtain ⟨rfl, _⟩ := hx
    have hz' : zs.length = cap0 := by simpa using hz
    simp only [Rows.uptoBulk] at h1
    have h2 := bulk_count (H := H) (lits .u8 (zs.take len0))
    have h3 := bulk_count (H := H) (lits .u8 (zs.drop len0))
    simp only [lits, List.length_map, List.length_take, List.length_drop] at h2 h3
    simp only [lits] at h1
    omega

end Go.Proofs.YtophdhpkinedgaaGreatDoor
end

section
namespace Go.Proofs.YtophdhpkinedgaaGreatDoor
open Go.ChangeShapes Go.WideShapes Go.ChangeAt Go.RowKit

/-- a [][]byte in memory -/
def IsBB (W : World) (a0 : Option Addr) (ls : List (List Int)) : Prop := ls = [] ∨ ∃ g off, a0 = some ⟨g, off, none⟩ ∧ g < W.heap.size ∧ ∀ r, r < ls.length →
  ∃ A C, W.cell? ⟨g, off + r, none⟩ = some (.slice A (ls.getD r []).length C) ∧ IsB W A C (ls.getD r [])
def bulkL (ls : List (List Int)) : Nat := (ls.map List.length).sum

theorem le_sum : ∀ {l : List Nat} {x : Nat}, x ∈ l → x ≤ l.sum
  | [], _, h => by cases h
  | y :: l, x, h => by
    rw [List.sum_cons]
    rcases List.mem_cons.1 h with rfl | h
    · omega
    · have := le_sum h; omega
theorem bulk_rows {H : Type} (A : Nat → Option Addr) (L C : Nat → Nat) (Z : Nat → List Int) : ∀ (rs : List Nat), (∀ r ∈ rs, L r ≤ C r ∧ (Z r).length = C r ∧ (A r = none → C r = 0)) →
    bulkL (rs.map fun r => (Z r).take (L r)) + rs.length ≤ Rows.uptoBulkAll (rs.map fun r => (Go.Deep.intRow .u8 (A r) (L r) (Z r) : DataW H))
  | [], _ => by simp [bulkL, Rows.uptoBulkAll]
  | r :: rs, h => by
    have ih := bulk_rows (H := H) A L C Z rs (fun x hx => h x (List.mem_cons_of_mem _ hx))
    obtain ⟨h1, h2, h3⟩ := h r (List.mem_cons_self ..)
    have hb : ((Z r).take (L r)).length + 1 ≤ Rows.uptoBulk (Go.Deep.intRow .u8 (A r) (L r) (Z r) : DataW H) := by
      unfold Go.Deep.intRow
      cases hA : A r with
      | none => simp [h3 hA] at h1; simp [h1, Rows.uptoBulk]
      | some a =>
        have := bulk_count (H := H) (lits .u8 ((Z r).take (L r)))
        simp only [lits, List.length_map] at this
        simp only [Rows.uptoBulk, lits]
        omega
    simp only [List.map_cons, Rows.uptoBulkAll, bulkL, List.sum_cons, List.length_cons] at ih ⊢
    omega

theorem IsBB.below {W W' : World} {B : Nat} {a0 : Option Addr} {ls : List (List Int)} (h : IsBB W a0 ls) (hb : Below B W W') (hB : W.heap.size ≤ B) : IsBB W' a0 ls := by
  rcases h with h | ⟨g, off, rfl, hg, hr⟩
  · exact Or.inl h
  · refine Or.inr ⟨g, off, rfl, Nat.lt_of_lt_of_le hg hb.size, fun r hlt => ?_⟩
    obtain ⟨A, C, h1, h2⟩ := hr r hlt
    exact ⟨A, C, (hb.cell (p := ⟨g, off + r, none⟩) (by show g < B; omega)).trans h1, h2.below hb hB⟩
end Go.Proofs.YtophdhpkinedgaaGreatDoor
end

section
namespace Go.Proofs.YtophdhpkinedgaaGreatDoor
open Go.ChangeShapes Go.WideShapes Go.ChangeAt Go.RowKit

def IsNN (W : World) (a0 : Option Addr) (ls : List (List Int)) : Prop := ls = [] ∨ ∃ g off, a0 = some ⟨g, off, none⟩ ∧ g < W.heap.size ∧ ∀ r, r < ls.length →
  ∃ A C, W.cell? ⟨g, off + r, none⟩ = some (.slice A (ls.getD r []).length C) ∧ IsN W A C (ls.getD r [])
theorem nrows_of_trod {H : Type} {enc : TypeId × Value → H} {W : World} {a0 : Option Addr} {len0 cap0 : Nat} {d0 : DataW H} {p0 : List MemPlace}
    (h0 : DataW.Trod enc Tryz.prog W 0 (fun _ => true) true 22 (Value.slice a0 len0 cap0) d0 p0)
    {ds : List (DataW H)} {j : Nat} (hk : Rows.uptoSmall H ds = true) (hd : ds[j]? = some d0) : ∃ ls : List (List Int), len0 = ls.length ∧ IsNN W a0 ls ∧ bulkL ls + ls.length ≤ 1048576 := by
  have hb : Rows.uptoBulkAll ds ≤ 1048576 := of_decide_eq_true hk
  have h1 := bulk_at hd
  obtain ⟨fuel, hf⟩ := h0
  rcases Go.Deep.open_int_rows Tryz.underlying22 Tryz.underlying30 Tryz.underlying5 (by kernel_rfl) (by kernel_rfl) hf with ⟨hcs, _⟩ | ⟨x, len, cap, A, L, C, Z, hcs, _, hl, hm, hx, hrow⟩
  · simp [Value.cells] at hcs
    obtain ⟨rfl, rfl, rfl⟩ := hcs
    exact ⟨[], rfl, Or.inl rfl, by simp [bulkL]⟩
  · simp [Value.cells] at hcs
    obtain ⟨rfl, rfl, rfl⟩ := hcs
    simp only [Prod.mk.injEq] at hx
    obtain ⟨rfl, _⟩ := hx
    have hbr := bulk_rows (H := H) A L C Z (List.range len0) (fun r hr => by
      obtain ⟨_, k1, _, k3, _, k5, _⟩ := hrow r (by have := List.mem_range.1 hr; omega)
      exact ⟨k1, k3, k5⟩)
    simp only [Rows.uptoBulk, List.length_range] at h1 hbr
    refine ⟨(List.range len0).map fun r => (Z r).take (L r), by simp, ?_, by simp only [List.length_map, List.length_range]; omega⟩
    rcases Nat.eq_zero_or_pos len0 with h0 | h0
    · subst h0; exact Or.inl rfl
    · obtain ⟨b, off, spot⟩ := x
      have hspot : spot = none := by simpa [Addr.add] using World.cell?_spot (hrow 0 (by omega)).1
      subst hspot
      have hc0 := (hrow 0 (by omega)).1
      have hbl : b < W.heap.size := by
        rcases Nat.lt_or_ge b W.heap.size with h | h
        · exact h
        · rw [Addr.add_lit] at hc0
          simp [World.cell?, Array.getElem?_eq_none h] at hc0
      refine Or.inr ⟨b, off, rfl, hbl, fun r hr => ?_⟩
      simp only [List.length_map, List.length_range] at hr
      obtain ⟨q1, q2, q3, q4, q5, q6, q7⟩ := hrow r (by omega)
      have e : ((List.range len0).map fun r => (Z r).take (L r)).getD r [] = (Z r).take (L r) := by simp [List.getD, hr]
      rw [e]
      have hlen : ((Z r).take (L r)).length = L r := by simp; omega
      rw [Addr.add_lit] at q1
      have hL : L r ≤ 1048576 := by
        have hm2 : ((Z r).take (L r)).length ≤ bulkL ((List.range len0).map fun r => (Z r).take (L r)) := by
          unfold bulkL
          refine le_sum ?_
          simp only [List.map_map, List.mem_map, List.mem_range, Function.comp]
          exact ⟨r, hr, rfl⟩
        omega
      refine ⟨A r, C r, by rw [hlen]; exact q1, ⟨by rw [hlen]; exact q2, by rw [hlen]; omega, ?_, fun y hy => bounds_u8 (q5 y (List.mem_of_mem_take hy))⟩, fun e => q6 e⟩
      rcases Nat.eq_zero_or_pos (L r) with h0' | h0'
      · left; exact List.length_eq_zero_iff.1 (by rw [hlen]; exact h0')
      · cases hA : A r with
        | none => have := q6 hA; omega
        | some a' =>
          obtain ⟨_, q8⟩ := q7 a' hA
          obtain ⟨b', off', spot'⟩ := a'
          have hspot' : spot' = none := by simpa [Addr.add] using World.cell?_spot (q8 0 (by omega))
          subst hspot'
          refine Or.inr ⟨b', off', rfl, fun i hi => ?_⟩
          rw [hlen] at hi
          have e2 : ((Z r).take (L r)).getD i 0 = (Z r).getD i 0 := by simp [List.getD, hi]
          rw [e2]
          have hc := q8 i (by omega)
          rw [Addr.add_lit] at hc
          refine ⟨hc, ?_⟩
          have := bounds_u8 (q5 ((Z r)[i]'(by omega)) (List.getElem_mem _))
          simpa [List.getD, List.getElem?_eq_getElem (show i < (Z r).length by omega)] using this
theorem IsNN.below {W W' : World} {B : Nat} {a0 : Option Addr} {ls : List (List Int)} (h : IsNN W a0 ls) (hb : Below B W W') (hB : W.heap.size ≤ B) : IsNN W' a0 ls := by
  rcases h with h | ⟨g, off, rfl, hg, hr⟩
  · exact Or.inl h
  · refine Or.inr ⟨g, off, rfl, Nat.lt_of_lt_of_le hg hb.size, fun r hlt => ?_⟩
    obtain ⟨A, C, h1, h2⟩ := hr r hlt
    exact ⟨A, C, (hb.cell (p := ⟨g, off + r, none⟩) (by show g < B; omega)).trans h1, h2.below hb hB⟩
end Go.Proofs.YtophdhpkinedgaaGreatDoor
end

section
namespace Go.Proofs.YtophdhpkinedgaaGreatDoor
open Go.ChangeShapes Go.WideShapes Go.ChangeAt Go.RowKit
attribute [local go_sem] Oper.semAt_some

structure RoI (w : World) (ls : List (List Int)) (k g : Nat) (o : Option Nd) (X : World) : Prop where
  r : IsRo X g o
  t : txtO o = (ls.take k).flatten
  d : Below w.heap.size w X
theorem flat_take (ls : List (List Int)) {k : Nat} (h : k < ls.length) : (ls.take (k + 1)).flatten = (ls.take k).flatten ++ ls.getD k [] := by
  rw [List.take_succ_eq_append_getElem h, List.flatten_append, List.getD_eq_getElem?_getD, List.getElem?_eq_getElem h]
  simp
theorem flat_le (ls : List (List Int)) (k : Nat) : (ls.take k).flatten.length ≤ ls.flatten.length := by
  have h1 : ls.flatten = (ls.take k).flatten ++ (ls.drop k).flatten := by rw [← List.flatten_append, List.take_append_drop]
  rw [h1, List.length_append]
  omega
set_option maxRecDepth 100000 in
set_option maxHeartbeats 4000000 in
theorem Rope10_at (a0 : Option Addr) (cap : Nat) (ls : List (List Int)) (w : World) (h : IsNN w a0 ls) (hs : ls.flatten.length ≤ 268435456) (hlen : ls.length ≤ 4611686018427387904) (hW : Wt w) :
    Calls Tryz.prog 12 #[.slice a0 ls.length cap] w fun y w' => ∃ g o, y = .returned (.pointer (some ⟨g, 0, none⟩)) ∧ IsRo w' g o ∧ txtO o = ls.flatten ∧ Below w.heap.size w w' := by
  have HN := hide (New9_at none 0 [] w ⟨⟨Nat.le_refl _, Nat.zero_le _, Or.inl rfl, fun x hx => by cases hx⟩, fun _ => rfl⟩ (Nat.zero_le _) hW)
  rw [show ([] : List Int).length = 0 from rfl] at HN
  have HW := hide fun (X : World) (hx : Below w.heap.size w X) => hW.below hx
  have HP := hide fun (X : World) (hx : Below w.heap.size w X) => h.below hx (Nat.le_refl _)
  have HS := hide hs
  have HLN := hide hlen
  clear h hs hW
  go_enter Tryz.func12, Tryz.ntmps12
  go_wp2_with fail
  refine (unhide HN).mono ?_
  rintro y w1 ⟨g, o, rfl, hr, ht, _, _, x1⟩
  dsimp only
  have i0 : RoI w ls 0 g o w1 := ⟨hr, by rw [ht]; rfl, x1⟩
  clear HN hr ht x1
  go_wp2_with fail
  go_loopw [3, 4, 5, 6] (fun v3 v4 v5 v6 wx => (∃ z, v6 = z) ∧ ∃ (k g : Nat) (o : Option Nd), v3 = .pointer (some ⟨g, 0, none⟩) ∧ v4 = .int .i64 0 ∧ v5 = .int .i64 (k : Int) ∧ k ≤ ls.length ∧ Hid (RoI w ls k g o wx)) (fun _ _ i _ _ => ls.length - (intOf i).toNat)
  case atStart => exact ⟨⟨_, rfl⟩, 0, g, o, rfl, rfl, rfl, Nat.zero_le _, hide i0⟩
  case round =>
    clear i0
    obtain ⟨⟨z6, rfl⟩, k, g, o, rfl, rfl, rfl, hk, HI⟩ := hrel
    by_cases c : k < ls.length
    · have t1 : (k : Int) < (ls.length : Int) := by omega
      have d1 : decide ((k : Int) < (ls.length : Int)) = true := decide_eq_true t1
      have hI := unhide HI
      rcases unhide HP wr hI.d with hnil | ⟨ga, off, rfl, hga, hrow⟩
      · rw [hnil] at c; exact absurd c (Nat.not_lt_zero _)
      · obtain ⟨A, C, hcell, hN⟩ := hrow k c
        have hle := flat_take ls c
        clear hrow
        generalize ls.getD k [] = pc at *
        have hle2 := flat_le ls (k + 1)
        have hlp : ((ls.take k).flatten).length + pc.length ≤ 268435456 := by
          have := unhide HS
          rw [hle, List.length_append] at hle2
          omega
        have b0 : Below wr.heap.size wr (wr.alloc (.cells #[] 5)) := (Below.refl _ _).alloc (Nat.le_refl _) _
        obtain ⟨v', W', r1, r2, r3, _⟩ := appG 30 (own_lit0S wr) b0.size (hN.1.below b0 (Nat.le_refl _)) (by simp only [List.length_nil]; omega)
        rw [List.nil_append] at r2
        obtain ⟨a', c', rfl, hN'⟩ := own_isNS r2 hN.1.2.2.2 (by omega)
        have XW := hI.d.trans ((b0.trans r3).mono hI.d.size)
        have HNw := hide (New9_at a' c' pc W' hN' (by omega) (unhide HW W' XW))
        have hcell' : (wr.alloc (.cells #[] 5)).cell? ⟨ga, off + k, none⟩ = some (.slice A pc.length C) := (b0.cell (p := ⟨ga, off + k, none⟩) hga).trans hcell
        have R1 := hide r1
        have HR := hide (hI.r.on (b0.trans r3))
        have HT := hide hI.t
        have HF := hide hle
        have HLP := hide hlp
        have HXW := hide XW
        clear r1 r2 r3 hN hN' hI hcell hle hle2 hlp b0 XW hga
        go_wp2_with (at_builtin; refine wpList_append_known rfl _ _ 30 30 rfl _ _ rfl rfl _ _ (unhide R1) ?_)
        refine (unhide HNw).mono ?_
        rintro y w2 ⟨g2, o2, rfl, hr2, ht2, _, _, x2⟩
        dsimp only
        have X2 := (unhide HXW).trans (x2.mono (unhide HXW).size)
        have HJ := hide (RoJoin9_at g g2 o o2 w2 ((unhide HR).on x2) hr2 (by rw [unhide HT, ht2]; exact unhide HLP) (unhide HW w2 X2))
        have HT2 := hide ht2
        clear hr2 ht2 x2 HXW HNw R1 HR
        go_wp2_with fail
        refine (unhide HJ).mono ?_
        rintro y w3 ⟨g3, rfl, hr3, x3⟩
        dsimp only
        have i1 : RoI w ls (k + 1) g3 (joinO o o2) w3 := ⟨hr3, by rw [joinO_txt, unhide HT, unhide HT2, unhide HF], X2.trans (x3.mono X2.size)⟩
        clear HJ hr3 x3 X2
        have wk : wrap64 ((k : Int) + 1) = (k : Int) + 1 := wrap_in _ (by omega) (by omega)
        go_wp2_with fail
        go_roundw
        case rel => exact ⟨⟨_, rfl⟩, k + 1, g3, joinO o o2, rfl, rfl, by push_cast; rfl, by omega, hide i1⟩
        case measure => simp only [intOf]; omega
    · have t1 : ¬ (k : Int) < (ls.length : Int) := by omega
      have d1 : decide ((k : Int) < (ls.length : Int)) = false := decide_eq_false t1
      have hkk : k = ls.length := by omega
      have HK := hide hkk
      clear hkk
      go_wp2_with fail
      refine bodyPost_ret (results_tmp rfl _ _ _) rfl ?_
      have hI := unhide HI
      exact ⟨g, rfl, o, hI.r, by rw [hI.t, unhide HK, List.take_length], hI.d⟩

end Go.Proofs.YtophdhpkinedgaaGreatDoor
end
