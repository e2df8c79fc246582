/- What the list of package-level variables gives: the table of classes holds its numbers; and a world for the witness. · Layer 5: what the list of package-level variables gives: the table of classes and utf8's two tables; bytealg's limit holds some number; a world for the witness. · The second form's bound: a []byte that came in has at most 1048576 places. · Lists of lists of bytes that came in under the second form's bound. · Arguments that are a Weld: what came in is four numbers and two strings of bytes. · Layer 9: a list of acts that came in under the second form's bound. · Layer 9: a list of acts that came in, of whatever size (the first form). -/
import Derived.Test.YtpfjfgggacpdfaaDoorCards
import Derived.Test.YtpfjfgggacpdfaaDoorTie
import Derived.Test.YtpfjfgggacpdfaaDoorSli
import Derived.SizedLaws
import Derived.Deep.DeepHandedRow
import Derived.Lib.LaidTab
import Derived.Test.YtpfjfgggacpdfaaDoorWsh
import Derived.Lib.LaidU8T
import Derived.Shelf.Vars
import Derived.Test.YtpfjfgggacpdfaaDoorCopy
import Derived.Deep.Matrix
import Derived.Test.YtpfjfgggacpdfaaDoorWvb
import Derived.OpenShut
import Derived.Test.YtpfjfgggacpdfaaDoorRpD
import Derived.Deep.Slices
import Derived.Deep.SlicePairs

section
namespace Go.Proofs.YtpfjfgggacpdfaaDoor
open Go.ChangeShapes Go.WideShapes Go.ChangeAt Go.RowKit

def tab : List Int := (List.range 245).map fun (i : Nat) => cls (i : Int)
theorem laid_eq : (Rows.laid_galley_octet_classes : DataW Unit) = Lib.tabData .u8 tab := by kernel_rfl
theorem own : ownKnob Tryd.prog.godebug = none := by kernel_rfl
theorem gTab : Tryd.prog.globalNamed "galley/octet.classes" = some 3 := by kernel_rfl
theorem gTabType : (Tryd.prog.globals[3]?).map (·.type) = some 148 := by kernel_rfl
theorem cellsTab : Tryd.prog.cellsOf 148 = 245 := by kernel_rfl
theorem cellsByte : Tryd.prog.cellsOf 5 = 1 := by kernel_rfl

theorem tab_of_laid {W : World} (h : laidMetH Tryd.prog [("galley/octet.classes", Rows.laid_galley_octet_classes)] W) : Tab W := by
  rw [laid_eq] at h
  have t := Lib.tabIs_of_head (rest := []) gTab gTabType Tryd.underlying148 Tryd.underlying5 cellsByte cellsTab h
  intro b h0 h1
  have hl : tab.length = 245 := by simp [tab]
  have := t.cell gTab b.toNat (by rw [hl]; omega)
  rw [this]
  have hb : b.toNat < 245 := by omega
  have e : tab.getD b.toNat 0 = cls b := by
    simp [tab, List.getD, hb, Int.toNat_of_nonneg h0]
  rw [e]

noncomputable def laidWorld (os : Os) : World :=
  { World.holding Tryd.prog os ⟨#[], #[], []⟩ with heap := (World.holding Tryd.prog os ⟨#[], #[], []⟩).heap.modify 3 fun
      | .cells _ t frozen => .cells (tab.map (Value.int .u8)).toArray t frozen
      | o => o }

theorem laidOut : laidOutB Tryd.prog = true := by kernel_rfl

/-- a []byte that came in reads as these bytes -/
theorem row_of_trod {H : Type} {enc : TypeId × Value → H} {W : World} {a0 : Option Addr} {len0 cap0 : Nat} {d0 : DataW H} {p0 : List MemPlace}
    (h0 : DataW.Trod enc Tryd.prog W 0 (fun _ => true) true 23 (Value.slice a0 len0 cap0) d0 p0)
    {ts : List TypeId} {ds : List (DataW H)} {j : Nat} (hsz : (DataW.weightsEach Tryd.prog ts ds).all (· ≤ reachBytes) = true) (ht : ts[j]? = some 23) (hd : ds[j]? = some d0) :
    ∃ l : List Int, len0 = l.length ∧ IsB W a0 cap0 l := by
  obtain ⟨fuel, hf⟩ := h0
  rcases open_ints Tryd.underlying23 Tryd.underlying5 (by kernel_rfl) hf with ⟨hcs, _⟩ | ⟨x, l, c, zs, hcs, _, hl, hm, hz, hx, hcell, hwz⟩
  · simp [Value.cells] at hcs
    obtain ⟨rfl, rfl, rfl⟩ := hcs
    exact ⟨[], rfl, by simp, by simp, Or.inl rfl, by simp⟩
  · simp [Value.cells] at hcs
    obtain ⟨rfl, rfl, rfl⟩ := hcs
    simp only [Prod.mk.injEq] at hx
    obtain ⟨rfl, _⟩ := hx
    have hz' : zs.length = cap0 := by simpa using hz
    have hs := sized_slice hsz ht hd Tryd.underlying23
    rw [show Tryd.prog.bytesOf 5 = 1 by kernel_rfl] at hs
    have hr : reachBytes = 140737488351232 := rfl
    simp [lits] at hs
    have hlen : (zs.take len0).length = len0 := by simp; omega
    have hby : ∀ x ∈ zs, 0 ≤ x ∧ x ≤ 255 := fun n hn => bounds_u8 (hwz n hn)
    refine ⟨zs.take len0, hlen.symm, by rw [hlen]; omega, by rw [hlen]; omega, ?_, fun y hy => hby y (List.mem_of_mem_take hy)⟩
    rcases Nat.eq_zero_or_pos len0 with h0 | h0
    · subst h0; exact Or.inl rfl
    · obtain ⟨b, off, spot⟩ := x
      have hspot : spot = none := by simpa [Addr.add] using World.cell?_spot (hcell 0 (by omega))
      subst hspot
      refine Or.inr ⟨b, off, rfl, fun i hi => ?_⟩
      rw [hlen] at hi
      have e : (zs.take len0).getD i 0 = zs.getD i 0 := by simp [List.getD, hi]
      rw [e]
      have hc := hcell i (by omega)
      rw [Addr.add_lit] at hc
      refine ⟨hc, ?_⟩
      have := hby (zs[i]'(by omega)) (List.getElem_mem _)
      simpa [List.getD, List.getElem?_eq_getElem (show i < zs.length by omega)] using this

end Go.Proofs.YtpfjfgggacpdfaaDoor
end

section
namespace Go.Proofs.YtpfjfgggacpdfaaDoor
open Go.ChangeShapes Go.WideShapes Go.ChangeAt Go.RowKit

def renW : Go.Shelf.Ren := ⟨fun n => n, fun | 5 => 5 | 119 => 137 | 138 => 140 | 139 => 141 | n => n, fun | 3 => 0 | 4 => 1 | n => n⟩
theorem first_eq : (Rows.laid_unicode_utf8_first : DataW Unit) = Lib.firstData := by kernel_rfl
theorem accept_eq : (Rows.laid_unicode_utf8_acceptRanges : DataW Unit) = Lib.acceptData := by kernel_rfl
theorem typesW : U8Types Tryd.prog renW := ⟨Tryd.underlying5, Tryd.underlying137, Tryd.underlying140, Tryd.underlying141⟩
theorem extraW : U8Extra Tryd.prog renW := ⟨by kernel_rfl, by kernel_rfl, by kernel_rfl, by kernel_rfl, by kernel_rfl, by kernel_rfl, by kernel_rfl⟩

theorem wt_of {W : World} (h : laidMetH Tryd.prog [("galley/octet.classes", Rows.laid_galley_octet_classes), ("unicode/utf8.acceptRanges", Rows.laid_unicode_utf8_acceptRanges), ("unicode/utf8.first", Rows.laid_unicode_utf8_first)] W) (hs : W.ShapedOpen Tryd.prog) : Wt W := by
  have h : laidMet Tryd.prog [("galley/octet.classes", Rows.laid_galley_octet_classes), ("unicode/utf8.acceptRanges", Rows.laid_unicode_utf8_acceptRanges), ("unicode/utf8.first", Rows.laid_unicode_utf8_first)] W := h
  have hf := Lib.laidMet.reads h (n := "unicode/utf8.first") (d := Rows.laid_unicode_utf8_first) (by simp)
  have ha := Lib.laidMet.reads h (n := "unicode/utf8.acceptRanges") (d := Rows.laid_unicode_utf8_acceptRanges) (by simp)
  rw [first_eq] at hf
  rw [accept_eq] at ha
  have hu := utf8Tabs_of_readsT typesW extraW hf ha
  have hm : ∃ m, W.cell? ⟨2, 0, none⟩ = some (.int .i64 m) :=
    cell_of_shapedOpen_int (zero := #[.int .i64 0]) (t := 3) hs (of_decide_eq_true (by kernel_rfl)) (by kernel_rfl) rfl (by kernel_rfl) (by kernel_rfl) Tryd.underlying3
  rw [laid_eq] at h
  have t := Lib.tabIs_of_head gTab gTabType Tryd.underlying148 Tryd.underlying5 cellsByte cellsTab h
  have hT : Tab W := by
    intro b h0 h1
    have hl : tab.length = 245 := by simp [tab]
    have := t.cell gTab b.toNat (by rw [hl]; omega)
    rw [this]
    have hb : b.toNat < 245 := by omega
    have e : tab.getD b.toNat 0 = cls b := by
      simp [tab, List.getD, hb, Int.toNat_of_nonneg h0]
    rw [e]
  have hms : 2 < W.heap.size := by
    obtain ⟨m, h2⟩ := hm
    rcases Nat.lt_or_ge 2 W.heap.size with e | e
    · exact e
    · simp [World.cell?, Array.getElem?_eq_none e] at h2
  have hts := hT.size
  exact ⟨hT, hu, hm, by omega⟩

/-- a []byte that came in reads as these bytes; nil has no room -/
theorem rowN_of_trod {H : Type} {enc : TypeId × Value → H} {W : World} {a0 : Option Addr} {len0 cap0 : Nat} {d0 : DataW H} {p0 : List MemPlace}
    (h0 : DataW.Trod enc Tryd.prog W 0 (fun _ => true) true 23 (Value.slice a0 len0 cap0) d0 p0)
    {ts : List TypeId} {ds : List (DataW H)} {j : Nat} (hsz : (DataW.weightsEach Tryd.prog ts ds).all (· ≤ reachBytes) = true) (ht : ts[j]? = some 23) (hd : ds[j]? = some d0) :
    ∃ l : List Int, len0 = l.length ∧ IsN W a0 cap0 l := by
  obtain ⟨l, hl, hB⟩ := row_of_trod h0 hsz ht hd
  refine ⟨l, hl, hB, fun e => ?_⟩
  obtain ⟨fuel, hf⟩ := h0
  rcases open_ints Tryd.underlying23 Tryd.underlying5 (by kernel_rfl) hf with ⟨hcs, _⟩ | ⟨x, l, c, zs, hcs, _⟩
  · simp [Value.cells] at hcs
    exact hcs.2.2
  · simp [Value.cells] at hcs
    rw [e] at hcs
    cases hcs.1

def tabF : List Int := (List.range 256).map fun (i : Nat) => ((Lib.firstT i : Nat) : Int)
def tabA : List Int := (List.range 16).flatMap fun (i : Nat) => [((Lib.accLo i : Nat) : Int), ((Lib.accHi i : Nat) : Int)]
noncomputable def laidWorldW (os : Os) : World :=
  { World.holding Tryd.prog os ⟨#[], #[], []⟩ with heap := ((((World.holding Tryd.prog os ⟨#[], #[], []⟩).heap.modify 3 fun
      | .cells _ t frozen => .cells (tab.map (Value.int .u8)).toArray t frozen
      | o => o).modify 0 fun
      | .cells _ t frozen => .cells (tabF.map (Value.int .u8)).toArray t frozen
      | o => o).modify 1 fun
      | .cells _ t frozen => .cells (tabA.map (Value.int .u8)).toArray t frozen
      | o => o) }
end Go.Proofs.YtpfjfgggacpdfaaDoor
end

section
namespace Go.Proofs.YtpfjfgggacpdfaaDoor
open Go.ChangeShapes Go.WideShapes Go.ChangeAt Go.RowKit

theorem bulk_pos {H : Type} (d : DataW H) : 0 < Rows.uptoBulk d := by
  cases d with
  | lit l => cases l <;> simp [Rows.uptoBulk]
  | _ => simp [Rows.uptoBulk]
theorem bulk_count {H : Type} : ∀ l : List (DataW H), l.length ≤ Rows.uptoBulkAll l
  | [] => Nat.zero_le _
  | d :: r => by
    have h1 := bulk_pos d
    have h2 := bulk_count r
    simp only [List.length_cons, Rows.uptoBulkAll]
    omega
theorem bulk_at {H : Type} : ∀ {l : List (DataW H)} {j : Nat} {d : DataW H}, l[j]? = some d → Rows.uptoBulk d ≤ Rows.uptoBulkAll l
  | [], _, _, h => by simp at h
  | e :: r, 0, d, h => by
    simp only [List.getElem?_cons_zero, Option.some.injEq] at h
    subst h
    simp only [Rows.uptoBulkAll]
    omega
  | e :: r, j + 1, d, h => by
    have := bulk_at (l := r) (j := j) (by simpa using h)
    simp only [Rows.uptoBulkAll]
    omega

/-- of a []byte that came in under the bound -/
theorem cap_of_bulk {H : Type} {enc : TypeId × Value → H} {W : World} {a0 : Option Addr} {len0 cap0 : Nat} {d0 : DataW H} {p0 : List MemPlace}
    (h0 : DataW.Trod enc Tryd.prog W 0 (fun _ => true) true 23 (Value.slice a0 len0 cap0) d0 p0)
    {ds : List (DataW H)} {j : Nat} (hk : Rows.uptoSmall H ds = true) (hd : ds[j]? = some d0) : cap0 ≤ 1048576 := by
  have hb : Rows.uptoBulkAll ds ≤ 1048576 := of_decide_eq_true hk
  have h1 := bulk_at hd
  obtain ⟨fuel, hf⟩ := h0
  rcases open_ints Tryd.underlying23 Tryd.underlying5 (by kernel_rfl) hf with ⟨hcs, _⟩ | ⟨x, l, c, zs, hcs, _, hl, hm, hz, hx, hcell, hwz⟩
  · simp [Value.cells] at hcs
    omega
  · simp [Value.cells] at hcs
    obtain ⟨rfl, rfl, rfl⟩ := hcs
    simp only [Prod.mk.injEq] at hx
    obtain ⟨rfl, _⟩ := hx
    have hz' : zs.length = cap0 := by simpa using hz
    simp only [Rows.uptoBulk] at h1
    have h2 := bulk_count (H := H) (lits .u8 (zs.take len0))
    have h3 := bulk_count (H := H) (lits .u8 (zs.drop len0))
    simp only [lits, List.length_map, List.length_take, List.length_drop] at h2 h3
    simp only [lits] at h1
    omega

end Go.Proofs.YtpfjfgggacpdfaaDoor
end

section
namespace Go.Proofs.YtpfjfgggacpdfaaDoor
open Go.ChangeShapes Go.WideShapes Go.ChangeAt Go.RowKit

/-- a [][]byte in memory -/
def IsBB (W : World) (a0 : Option Addr) (ls : List (List Int)) : Prop := ls = [] ∨ ∃ g off, a0 = some ⟨g, off, none⟩ ∧ g < W.heap.size ∧ ∀ r, r < ls.length →
  ∃ A C, W.cell? ⟨g, off + r, none⟩ = some (.slice A (ls.getD r []).length C) ∧ IsB W A C (ls.getD r [])
def bulkL (ls : List (List Int)) : Nat := (ls.map List.length).sum

theorem le_sum : ∀ {l : List Nat} {x : Nat}, x ∈ l → x ≤ l.sum
  | [], _, h => by cases h
  | y :: l, x, h => by
    rw [List.sum_cons]
    rcases List.mem_cons.1 h with rfl | h
    · omega
    · have := le_sum h; omega
theorem bulk_rows {H : Type} (A : Nat → Option Addr) (L C : Nat → Nat) (Z : Nat → List Int) : ∀ (rs : List Nat), (∀ r ∈ rs, L r ≤ C r ∧ (Z r).length = C r ∧ (A r = none → C r = 0)) →
    bulkL (rs.map fun r => (Z r).take (L r)) + rs.length ≤ Rows.uptoBulkAll (rs.map fun r => (Go.Deep.intRow .u8 (A r) (L r) (Z r) : DataW H))
  | [], _ => by simp [bulkL, Rows.uptoBulkAll]
  | r :: rs, h => by
    have ih := bulk_rows (H := H) A L C Z rs (fun x hx => h x (List.mem_cons_of_mem _ hx))
    obtain ⟨h1, h2, h3⟩ := h r (List.mem_cons_self ..)
    have hb : ((Z r).take (L r)).length + 1 ≤ Rows.uptoBulk (Go.Deep.intRow .u8 (A r) (L r) (Z r) : DataW H) := by
      unfold Go.Deep.intRow
      cases hA : A r with
      | none => simp [h3 hA] at h1; simp [h1, Rows.uptoBulk]
      | some a =>
        have := bulk_count (H := H) (lits .u8 ((Z r).take (L r)))
        simp only [lits, List.length_map] at this
        simp only [Rows.uptoBulk, lits]
        omega
    simp only [List.map_cons, Rows.uptoBulkAll, bulkL, List.sum_cons, List.length_cons] at ih ⊢
    omega

theorem IsBB.below {W W' : World} {B : Nat} {a0 : Option Addr} {ls : List (List Int)} (h : IsBB W a0 ls) (hb : Below B W W') (hB : W.heap.size ≤ B) : IsBB W' a0 ls := by
  rcases h with h | ⟨g, off, rfl, hg, hr⟩
  · exact Or.inl h
  · refine Or.inr ⟨g, off, rfl, Nat.lt_of_lt_of_le hg hb.size, fun r hlt => ?_⟩
    obtain ⟨A, C, h1, h2⟩ := hr r hlt
    exact ⟨A, C, (hb.cell (p := ⟨g, off + r, none⟩) (by show g < B; omega)).trans h1, h2.below hb hB⟩
end Go.Proofs.YtpfjfgggacpdfaaDoor
end

section
namespace Go.Proofs.YtpfjfgggacpdfaaDoor
open Go.ChangeShapes Go.WideShapes Go.ChangeAt Go.RowKit

theorem one_intV {H : Type} {enc : TypeId × Value → H} {P : Program} {W : World} {spare : Nat → Bool} {m : Nat} {t : TypeId} (ht : P.underlying t = some (.int .i64)) {xs : List (DataW H × List MemPlace)} {L : List Value} {i k : Nat} (hi : i < xs.length)
    (h : DataW.trod enc P W 0 spare true m t ((L.drop k).take 1) = xs[i]?) : ∃ n : Int, L[k]? = some (.int .i64 n) := by
  rw [List.getElem?_eq_getElem hi] at h
  obtain ⟨n, hn, _⟩ := DataW.trod_int ht h
  refine ⟨n, ?_⟩
  have := congrArg (·[0]?) hn
  simpa [List.getElem?_take, List.getElem?_drop] using this
theorem one_strV {H : Type} {enc : TypeId × Value → H} {P : Program} {W : World} {spare : Nat → Bool} {m : Nat} {t : TypeId} (ht : P.underlying t = some .string) {xs : List (DataW H × List MemPlace)} {L : List Value} {i k : Nat} (hi : i < xs.length)
    (h : DataW.trod enc P W 0 spare true m t ((L.drop k).take 1) = xs[i]?) : ∃ s : ByteArray, L[k]? = some (.string s) := by
  rw [List.getElem?_eq_getElem hi] at h
  obtain ⟨n, hn, _⟩ := DataW.trod_string ht h
  refine ⟨n, ?_⟩
  have := congrArg (·[0]?) hn
  simpa [List.getElem?_take, List.getElem?_drop] using this
/-- a string's bytes as numbers -/
def numsOf (s : ByteArray) : List Int := s.data.toList.map fun u => (u.toNat : Int)
theorem nums_in (s : ByteArray) : ∀ x ∈ numsOf s, 0 ≤ x ∧ x ≤ 255 := by
  intro x hx
  obtain ⟨u, _, rfl⟩ := List.mem_map.1 hx
  have := u.toNat_lt
  omega
theorem str_nums (s : ByteArray) : strOfNums (numsOf s) = s := by
  unfold strOfNums numsOf
  apply ByteArray.ext
  have e : ((fun n : Int => UInt8.ofNat n.toNat) ∘ fun u : UInt8 => (u.toNat : Int)) = id := by
    funext u
    simp
  rw [List.map_map, e, List.map_id]
set_option maxRecDepth 100000 in
theorem weld_of_trod {H : Type} {enc : TypeId × Value → H} {W : World} {v : Value} {d0 : DataW H} {p0 : List MemPlace} {base : Nat} (hv : Value.okWide Tryd.prog W .any base 49 v)
    (h0 : DataW.Trod enc Tryd.prog W 0 (fun _ => true) true 49 v d0 p0) : ∃ x : We, v = weV x ∧ Byw x := by
  obtain ⟨cs, rfl, hs⟩ := okWide_struct Tryd.underlying49 hv
  obtain ⟨fuel, hf⟩ := h0
  obtain ⟨xs, n, _, _, _, hx, hall⟩ := DataW.trod_struct Tryd.underlying49 hf
  have hs' : cs.size = 6 := hs.trans (by kernel_rfl)
  have hx' : xs.length = 3 := hx
  have hl : cs.toList.length = 6 := by simpa using hs'
  have hc : Tryd.prog.cellsOf 3 = 1 := by kernel_rfl
  have hc2 : Tryd.prog.cellsOf 47 = 4 := by kernel_rfl
  have hc3 : Tryd.prog.cellsOf 9 = 1 := by kernel_rfl
  have g0 : DataW.trod enc Tryd.prog W 0 (fun _ => true) true n 47 ((cs.toList.drop 0).take (Tryd.prog.cellsOf 47)) = xs[0]? := hall 0 _ rfl
  have g1 : DataW.trod enc Tryd.prog W 0 (fun _ => true) true n 9 ((cs.toList.drop 4).take (Tryd.prog.cellsOf 9)) = xs[1]? := hall 1 _ rfl
  have g2 : DataW.trod enc Tryd.prog W 0 (fun _ => true) true n 9 ((cs.toList.drop 5).take (Tryd.prog.cellsOf 9)) = xs[2]? := hall 2 _ rfl
  rw [hc2, List.getElem?_eq_getElem (show 0 < xs.length by omega)] at g0
  rw [hc3] at g1 g2
  obtain ⟨ys, k, _, _, _, hy, hall2⟩ := DataW.trod_struct Tryd.underlying47 g0
  have hy' : ys.length = 4 := hy
  have j0 : DataW.trod enc Tryd.prog W 0 (fun _ => true) true k 3 ((((cs.toList.drop 0).take 4).drop 0).take (Tryd.prog.cellsOf 3)) = ys[0]? := hall2 0 _ rfl
  have j1 : DataW.trod enc Tryd.prog W 0 (fun _ => true) true k 3 ((((cs.toList.drop 0).take 4).drop 1).take (Tryd.prog.cellsOf 3)) = ys[1]? := hall2 1 _ rfl
  have j2 : DataW.trod enc Tryd.prog W 0 (fun _ => true) true k 3 ((((cs.toList.drop 0).take 4).drop 2).take (Tryd.prog.cellsOf 3)) = ys[2]? := hall2 2 _ rfl
  have j3 : DataW.trod enc Tryd.prog W 0 (fun _ => true) true k 3 ((((cs.toList.drop 0).take 4).drop 3).take (Tryd.prog.cellsOf 3)) = ys[3]? := hall2 3 _ rfl
  rw [hc] at j0 j1 j2 j3
  obtain ⟨b, e0⟩ := one_intV Tryd.underlying3 (by omega) j0
  obtain ⟨r, e1⟩ := one_intV Tryd.underlying3 (by omega) j1
  obtain ⟨u, e2⟩ := one_intV Tryd.underlying3 (by omega) j2
  obtain ⟨e, e3⟩ := one_intV Tryd.underlying3 (by omega) j3
  obtain ⟨s, e4⟩ := one_strV Tryd.underlying9 (by omega) g1
  obtain ⟨t, e5⟩ := one_strV Tryd.underlying9 (by omega) g2
  refine ⟨⟨⟨b, r, u, e⟩, numsOf s, numsOf t⟩, ?_, nums_in s, nums_in t⟩
  unfold weV
  dsimp only
  rw [str_nums, str_nums]
  congr 1
  apply Array.ext'
  apply List.ext_getElem?
  intro i
  match i with
  | 0 => rw [show cs.toList[0]? = ((cs.toList.drop 0).take 4)[0]? by simp]; exact e0
  | 1 => rw [show cs.toList[1]? = ((cs.toList.drop 0).take 4)[1]? by simp]; exact e1
  | 2 => rw [show cs.toList[2]? = ((cs.toList.drop 0).take 4)[2]? by simp]; exact e2
  | 3 => rw [show cs.toList[3]? = ((cs.toList.drop 0).take 4)[3]? by simp]; exact e3
  | 4 => exact e4
  | 5 => exact e5
  | i + 6 => rw [List.getElem?_eq_none (by omega)]; rfl
end Go.Proofs.YtpfjfgggacpdfaaDoor
end

section
namespace Go.Proofs.YtpfjfgggacpdfaaDoor
open Go.ChangeShapes Go.WideShapes Go.ChangeAt Go.RowKit

/-- a []byte within what came in; nil has no room -/
theorem bytesN_of_trod {H : Type} {enc : TypeId × Value → H} {W : World} {n : Nat} {v : Value} {x : DataW H × List MemPlace}
    (h : DataW.trod enc Tryd.prog W 0 (fun _ => true) true n 23 [v] = some x) (hb : Rows.uptoBulk x.1 ≤ 1048576) :
    ∃ A C l, v = .slice A l.length C ∧ IsN W A C l := by
  rcases open_ints Tryd.underlying23 Tryd.underlying5 (by kernel_rfl) h with ⟨hcs, hx⟩ | ⟨a, len, cap, zs, hcs, _, hl, hm, hz, hx, hcell, hwz⟩
  · simp at hcs
    subst hcs
    exact ⟨none, 0, [], rfl, ⟨by simp, by simp, Or.inl rfl, by simp⟩, fun _ => rfl⟩
  · simp at hcs
    subst hcs
    have hz' : zs.length = cap := by simpa using hz
    subst hx
    have h2 := bulk_count (H := H) (lits .u8 (zs.take len))
    simp only [lits, List.length_map, List.length_take] at h2
    simp only [Rows.uptoBulk, lits] at hb
    have hlen : (zs.take len).length = len := by simp; omega
    have hby : ∀ x ∈ zs, 0 ≤ x ∧ x ≤ 255 := fun n hn => bounds_u8 (hwz n hn)
    refine ⟨some a, cap, zs.take len, by rw [hlen], ⟨by rw [hlen]; omega, by rw [hlen]; omega, ?_, fun y hy => hby y (List.mem_of_mem_take hy)⟩, fun e => by cases e⟩
    rcases Nat.eq_zero_or_pos len with h0 | h0
    · subst h0; exact Or.inl rfl
    · obtain ⟨b, off, spot⟩ := a
      have hspot : spot = none := by simpa [Addr.add] using World.cell?_spot (hcell 0 (by omega))
      subst hspot
      refine Or.inr ⟨b, off, rfl, fun i hi => ?_⟩
      rw [hlen] at hi
      have e : (zs.take len).getD i 0 = zs.getD i 0 := by simp [List.getD, hi]
      rw [e]
      have hc := hcell i (by omega)
      rw [Addr.add_lit] at hc
      refine ⟨hc, ?_⟩
      have := hby (zs[i]'(by omega)) (List.getElem_mem _)
      simpa [List.getD, List.getElem?_eq_getElem (show i < zs.length by omega)] using this
def acL (x : Ac) : List Value := [.int .i64 x.k, .int .i64 x.a, .int .i64 x.b, .int .i64 x.lo, .int .i64 x.hi, .slice x.p x.l.length x.c]
set_option maxRecDepth 100000 in
theorem act_cells {H : Type} {enc : TypeId × Value → H} {W : World} {cs : List Value} {fuel : Nat} {x : DataW H × List MemPlace}
    (hl : cs.length = 6) (hb : Rows.uptoBulk x.1 ≤ 1048576) (hf : DataW.trod enc Tryd.prog W 0 (fun _ => true) true fuel 61 cs = some x) : ∃ q : Ac, cs = acL q ∧ IsN W q.p q.c q.l := by
  obtain ⟨xs, n, _, hxx, _, hx, hall⟩ := DataW.trod_struct Tryd.underlying61 hf
  have hx' : xs.length = 6 := hx
  have hc : Tryd.prog.cellsOf 3 = 1 := by kernel_rfl
  have hc2 : Tryd.prog.cellsOf 23 = 1 := by kernel_rfl
  have j0 : DataW.trod enc Tryd.prog W 0 (fun _ => true) true n 3 ((cs.drop 0).take (Tryd.prog.cellsOf 3)) = xs[0]? := hall 0 _ rfl
  have j1 : DataW.trod enc Tryd.prog W 0 (fun _ => true) true n 3 ((cs.drop 1).take (Tryd.prog.cellsOf 3)) = xs[1]? := hall 1 _ rfl
  have j2 : DataW.trod enc Tryd.prog W 0 (fun _ => true) true n 3 ((cs.drop 2).take (Tryd.prog.cellsOf 3)) = xs[2]? := hall 2 _ rfl
  have j3 : DataW.trod enc Tryd.prog W 0 (fun _ => true) true n 3 ((cs.drop 3).take (Tryd.prog.cellsOf 3)) = xs[3]? := hall 3 _ rfl
  have j4 : DataW.trod enc Tryd.prog W 0 (fun _ => true) true n 3 ((cs.drop 4).take (Tryd.prog.cellsOf 3)) = xs[4]? := hall 4 _ rfl
  have j5 : DataW.trod enc Tryd.prog W 0 (fun _ => true) true n 23 ((cs.drop 5).take (Tryd.prog.cellsOf 23)) = xs[5]? := hall 5 _ rfl
  rw [hc] at j0 j1 j2 j3 j4
  rw [hc2, List.getElem?_eq_getElem (show 5 < xs.length by omega)] at j5
  obtain ⟨k, e0⟩ := one_intV Tryd.underlying3 (by omega) j0
  obtain ⟨a, e1⟩ := one_intV Tryd.underlying3 (by omega) j1
  obtain ⟨b, e2⟩ := one_intV Tryd.underlying3 (by omega) j2
  obtain ⟨lo, e3⟩ := one_intV Tryd.underlying3 (by omega) j3
  obtain ⟨hi, e4⟩ := one_intV Tryd.underlying3 (by omega) j4
  obtain ⟨v, hv⟩ : ∃ v, cs[5]? = some v := ⟨_, List.getElem?_eq_getElem (by omega)⟩
  have hd5 : (cs.drop 5).take 1 = [v] := by
    apply List.ext_getElem?
    intro i
    match i with
    | 0 => simpa using hv
    | i + 1 => simp; omega
  rw [hd5] at j5
  have hb5 : Rows.uptoBulk (xs[5]'(by omega)).1 ≤ 1048576 := by
    have h1 : (xs.map fun x => x.1)[5]? = some (xs[5]'(by omega)).1 := by simp [List.getElem?_eq_getElem (show 5 < xs.length by omega)]
    have h2 := bulk_at h1
    rw [hxx] at hb
    simp only [Rows.uptoBulk] at hb
    omega
  obtain ⟨A, C, l, e5, hN⟩ := bytesN_of_trod j5 hb5
  refine ⟨⟨k, a, b, lo, hi, A, C, l⟩, ?_, hN⟩
  unfold acL
  dsimp only
  apply List.ext_getElem?
  intro i
  match i with
  | 0 => exact e0
  | 1 => exact e1
  | 2 => exact e2
  | 3 => exact e3
  | 4 => exact e4
  | 5 => rw [hv, e5]; rfl
  | i + 6 => rw [List.getElem?_eq_none (by omega)]; rfl
instance : Inhabited Ac := ⟨⟨0, 0, 0, 0, 0, none, 0, []⟩⟩
set_option maxRecDepth 100000 in
theorem acts_of_trod {H : Type} {enc : TypeId × Value → H} {W : World} {a0 : Option Addr} {len0 cap0 : Nat} {d0 : DataW H} {p0 : List MemPlace}
    (h0 : DataW.Trod enc Tryd.prog W 0 (fun _ => true) true 22 (Value.slice a0 len0 cap0) d0 p0)
    {ds : List (DataW H)} {j : Nat} (hk : Rows.uptoSmall H ds = true) (hd : ds[j]? = some d0) : ∃ cs : List Ac, len0 = cs.length ∧ IsAc W a0 cs ∧ cs.length ≤ 1048576 := by
  have hb : Rows.uptoBulkAll ds ≤ 1048576 := of_decide_eq_true hk
  have h1 := bulk_at hd
  obtain ⟨fuel, hf⟩ := h0
  rcases Go.Deep.open_slice Tryd.underlying22 hf with ⟨hcs, _⟩ | ⟨a, len, cap, m, n, D, Pl, hcs, _, hl, hm, hmm, hx, hrow⟩
  · simp [Value.cells] at hcs
    obtain ⟨rfl, rfl, rfl⟩ := hcs
    exact ⟨[], rfl, fun r x h => by simp at h, by simp⟩
  · simp [Value.cells] at hcs
    obtain ⟨rfl, rfl, rfl⟩ := hcs
    simp only [Prod.mk.injEq] at hx
    obtain ⟨rfl, _⟩ := hx
    simp only [if_true] at hmm
    subst hmm
    simp only [Rows.uptoBulk] at h1
    have ce : Tryd.prog.cellsOf 61 = 6 := by kernel_rfl
    have hcount := bulk_count (H := H) ((List.range len0).map D)
    rw [List.length_map, List.length_range] at hcount
    have each : ∀ r, r < len0 → ∃ y : Ac, IsN W y.p y.c y.l ∧ ∀ j, j < 6 → W.cell? (a.add (r * 6 + j)) = (acL y)[j]? := by
      intro r hr
      obtain ⟨cs', h2, h3⟩ := hrow r (by omega)
      rw [ce] at h2
      obtain ⟨_, hlen, hcell⟩ := World.cells?_some h2
      have hbr : Rows.uptoBulk (D r) ≤ 1048576 := by
        have := bulk_at (H := H) (l := (List.range len0).map D) (j := r) (d := D r) (by simp [hr])
        omega
      obtain ⟨y, rfl, hN⟩ := act_cells hlen hbr h3
      refine ⟨y, hN, fun j hj => ?_⟩
      have e := hcell j (by omega)
      rw [Go.Deep.add_add] at e
      rw [e, List.getElem?_eq_getElem (by simpa [acL] using hj)]
    obtain ⟨y, hy⟩ := Go.Deep.choose_lt each
    refine ⟨(List.range len0).map y, by simp, ?_, by simp; omega⟩
    intro r x hr
    have hrl : r < len0 := by
      have := (List.getElem?_eq_some_iff.1 hr).1
      simpa using this
    obtain rfl : y r = x := by simpa [hrl] using hr
    obtain ⟨b, off, spot⟩ := a
    have hc0 : W.cell? (Addr.add ⟨b, off, spot⟩ (0 * 6 + 0)) = some (.int .i64 (y 0).k) := (hy 0 (by omega)).2 0 (by decide)
    have hspot : spot = none := by simpa [Addr.add] using World.cell?_spot hc0
    subst hspot
    have f : ∀ j, j < 6 → W.cell? ⟨b, off + (r * 6 + j), none⟩ = (acL (y r))[j]? := fun j hj => by have := (hy r hrl).2 j hj; rwa [Addr.add_lit] at this
    exact ⟨b, off, rfl, (hy r hrl).1, f 0 (by decide), f 1 (by decide), f 2 (by decide), f 3 (by decide), f 4 (by decide), f 5 (by decide)⟩

end Go.Proofs.YtpfjfgggacpdfaaDoor
end

section
namespace Go.Proofs.YtpfjfgggacpdfaaDoor
open Go.ChangeShapes Go.WideShapes Go.ChangeAt Go.RowKit

theorem wE_at {H : Type} {P : Program} : ∀ {ts : List TypeId} {ds : List (DataW H)} {j : Nat} {t : TypeId} {d : DataW H}, ts[j]? = some t → ds[j]? = some d → ∀ x ∈ d.weights P t, x ∈ DataW.weightsEach P ts ds
  | [], _, _, _, _, ht, _, _, _ => by simp at ht
  | _ :: _, [], _, _, _, _, hd, _, _ => by simp at hd
  | t0 :: ts, d0 :: ds, 0, t, d, ht, hd, x, hx => by
    simp only [List.getElem?_cons_zero, Option.some.injEq] at ht hd
    subst ht hd
    rw [DataW.weightsEach]
    exact List.mem_append_left _ hx
  | t0 :: ts, d0 :: ds, j + 1, t, d, ht, hd, x, hx => by
    simp only [List.getElem?_cons_succ] at ht hd
    rw [DataW.weightsEach]
    exact List.mem_append_right _ (wE_at ht hd x hx)
theorem wA_at {H : Type} {P : Program} {e : TypeId} : ∀ {l : List (DataW H)} {d : DataW H}, d ∈ l → ∀ x ∈ d.weights P e, x ∈ DataW.weightsAll P e l
  | [], _, h, _, _ => by simp at h
  | d0 :: r, d, h, x, hx => by
    rw [DataW.weightsAll]
    rcases List.mem_cons.1 h with rfl | h
    · exact List.mem_append_left _ hx
    · exact List.mem_append_right _ (wA_at h x hx)
theorem bytesN1_of_trod {H : Type} {enc : TypeId × Value → H} {W : World} {n : Nat} {v : Value} {x : DataW H × List MemPlace}
    (h : DataW.trod enc Tryd.prog W 0 (fun _ => true) true n 23 [v] = some x) (hb : ∀ y ∈ x.1.weights Tryd.prog 23, y ≤ reachBytes) :
    ∃ A C l, v = .slice A l.length C ∧ IsN W A C l := by
  rcases open_ints Tryd.underlying23 Tryd.underlying5 (by kernel_rfl) h with ⟨hcs, hx⟩ | ⟨a, len, cap, zs, hcs, _, hl, hm, hz, hx, hcell, hwz⟩
  · simp at hcs
    subst hcs
    exact ⟨none, 0, [], rfl, ⟨by simp, by simp, Or.inl rfl, by simp⟩, fun _ => rfl⟩
  · simp at hcs
    subst hcs
    have hz' : zs.length = cap := by simpa using hz
    subst hx
    simp only [DataW.weights, Tryd.underlying23] at hb
    have hs := hb _ (List.mem_cons_self ..)
    rw [show Tryd.prog.bytesOf 5 = 1 by kernel_rfl] at hs
    have hr : reachBytes = 140737488351232 := rfl
    simp [lits] at hs
    have hlen : (zs.take len).length = len := by simp; omega
    have hby : ∀ x ∈ zs, 0 ≤ x ∧ x ≤ 255 := fun n hn => bounds_u8 (hwz n hn)
    refine ⟨some a, cap, zs.take len, by rw [hlen], ⟨by rw [hlen]; omega, by rw [hlen]; omega, ?_, fun y hy => hby y (List.mem_of_mem_take hy)⟩, fun e => by cases e⟩
    rcases Nat.eq_zero_or_pos len with h0 | h0
    · subst h0; exact Or.inl rfl
    · obtain ⟨b, off, spot⟩ := a
      have hspot : spot = none := by simpa [Addr.add] using World.cell?_spot (hcell 0 (by omega))
      subst hspot
      refine Or.inr ⟨b, off, rfl, fun i hi => ?_⟩
      rw [hlen] at hi
      have e : (zs.take len).getD i 0 = zs.getD i 0 := by simp [List.getD, hi]
      rw [e]
      have hc := hcell i (by omega)
      rw [Addr.add_lit] at hc
      refine ⟨hc, ?_⟩
      have := hby (zs[i]'(by omega)) (List.getElem_mem _)
      simpa [List.getD, List.getElem?_eq_getElem (show i < zs.length by omega)] using this
set_option maxRecDepth 100000 in
theorem act1_cells {H : Type} {enc : TypeId × Value → H} {W : World} {cs : List Value} {fuel : Nat} {x : DataW H × List MemPlace}
    (hl : cs.length = 6) (hb : ∀ y ∈ x.1.weights Tryd.prog 61, y ≤ reachBytes) (hf : DataW.trod enc Tryd.prog W 0 (fun _ => true) true fuel 61 cs = some x) : ∃ q : Ac, cs = acL q ∧ IsN W q.p q.c q.l := by
  obtain ⟨xs, n, _, hxx, _, hx, hall⟩ := DataW.trod_struct Tryd.underlying61 hf
  have hx' : xs.length = 6 := hx
  have hc : Tryd.prog.cellsOf 3 = 1 := by kernel_rfl
  have hc2 : Tryd.prog.cellsOf 23 = 1 := by kernel_rfl
  have j0 : DataW.trod enc Tryd.prog W 0 (fun _ => true) true n 3 ((cs.drop 0).take (Tryd.prog.cellsOf 3)) = xs[0]? := hall 0 _ rfl
  have j1 : DataW.trod enc Tryd.prog W 0 (fun _ => true) true n 3 ((cs.drop 1).take (Tryd.prog.cellsOf 3)) = xs[1]? := hall 1 _ rfl
  have j2 : DataW.trod enc Tryd.prog W 0 (fun _ => true) true n 3 ((cs.drop 2).take (Tryd.prog.cellsOf 3)) = xs[2]? := hall 2 _ rfl
  have j3 : DataW.trod enc Tryd.prog W 0 (fun _ => true) true n 3 ((cs.drop 3).take (Tryd.prog.cellsOf 3)) = xs[3]? := hall 3 _ rfl
  have j4 : DataW.trod enc Tryd.prog W 0 (fun _ => true) true n 3 ((cs.drop 4).take (Tryd.prog.cellsOf 3)) = xs[4]? := hall 4 _ rfl
  have j5 : DataW.trod enc Tryd.prog W 0 (fun _ => true) true n 23 ((cs.drop 5).take (Tryd.prog.cellsOf 23)) = xs[5]? := hall 5 _ rfl
  rw [hc] at j0 j1 j2 j3 j4
  rw [hc2, List.getElem?_eq_getElem (show 5 < xs.length by omega)] at j5
  obtain ⟨k, e0⟩ := one_intV Tryd.underlying3 (by omega) j0
  obtain ⟨a, e1⟩ := one_intV Tryd.underlying3 (by omega) j1
  obtain ⟨b, e2⟩ := one_intV Tryd.underlying3 (by omega) j2
  obtain ⟨lo, e3⟩ := one_intV Tryd.underlying3 (by omega) j3
  obtain ⟨hi, e4⟩ := one_intV Tryd.underlying3 (by omega) j4
  obtain ⟨v, hv⟩ : ∃ v, cs[5]? = some v := ⟨_, List.getElem?_eq_getElem (by omega)⟩
  have hd5 : (cs.drop 5).take 1 = [v] := by
    apply List.ext_getElem?
    intro i
    match i with
    | 0 => simpa using hv
    | i + 1 => simp; omega
  rw [hd5] at j5
  have hb5 : ∀ y ∈ (xs[5]'(by omega)).1.weights Tryd.prog 23, y ≤ reachBytes := fun y hy => by
    have h1 : (xs.map fun x => x.1)[5]? = some (xs[5]'(by omega)).1 := by simp [List.getElem?_eq_getElem (show 5 < xs.length by omega)]
    refine hb y ?_
    rw [hxx]
    simp only [DataW.weights, Tryd.underlying61]
    exact wE_at (j := 5) rfl h1 y hy
  obtain ⟨A, C, l, e5, hN⟩ := bytesN1_of_trod j5 hb5
  refine ⟨⟨k, a, b, lo, hi, A, C, l⟩, ?_, hN⟩
  unfold acL
  dsimp only
  apply List.ext_getElem?
  intro i
  match i with
  | 0 => exact e0
  | 1 => exact e1
  | 2 => exact e2
  | 3 => exact e3
  | 4 => exact e4
  | 5 => rw [hv, e5]; rfl
  | i + 6 => rw [List.getElem?_eq_none (by omega)]; rfl
set_option maxRecDepth 100000 in
theorem acts1_of_trod {H : Type} {enc : TypeId × Value → H} {W : World} {a0 : Option Addr} {len0 cap0 : Nat} {d0 : DataW H} {p0 : List MemPlace}
    (h0 : DataW.Trod enc Tryd.prog W 0 (fun _ => true) true 22 (Value.slice a0 len0 cap0) d0 p0)
    {ts : List TypeId} {ds : List (DataW H)} {j : Nat} (hsz : (DataW.weightsEach Tryd.prog ts ds).all (· ≤ reachBytes) = true) (ht : ts[j]? = some 22) (hd : ds[j]? = some d0) : ∃ cs : List Ac, len0 = cs.length ∧ IsAc W a0 cs ∧ cs.length ≤ 2199023255488 := by
  have hall : ∀ y ∈ d0.weights Tryd.prog 22, y ≤ reachBytes := fun y hy => of_decide_eq_true (List.all_eq_true.1 hsz y (wE_at ht hd y hy))
  obtain ⟨fuel, hf⟩ := h0
  rcases Go.Deep.open_slice Tryd.underlying22 hf with ⟨hcs, _⟩ | ⟨a, len, cap, m, n, D, Pl, hcs, _, hl, hm, hmm, hx, hrow⟩
  · simp [Value.cells] at hcs
    obtain ⟨rfl, rfl, rfl⟩ := hcs
    exact ⟨[], rfl, fun r x h => by simp at h, by simp⟩
  · simp [Value.cells] at hcs
    obtain ⟨rfl, rfl, rfl⟩ := hcs
    simp only [Prod.mk.injEq] at hx
    obtain ⟨rfl, _⟩ := hx
    simp only [if_true] at hmm
    subst hmm
    have hs := sized_slice hsz ht hd Tryd.underlying22
    rw [show Tryd.prog.bytesOf 61 = 64 by kernel_rfl] at hs
    have hr : reachBytes = 140737488351232 := rfl
    simp only [List.length_map, List.length_range] at hs
    simp only [DataW.weights, Tryd.underlying22] at hall
    have ce : Tryd.prog.cellsOf 61 = 6 := by kernel_rfl
    have each : ∀ r, r < len0 → ∃ y : Ac, IsN W y.p y.c y.l ∧ ∀ j, j < 6 → W.cell? (a.add (r * 6 + j)) = (acL y)[j]? := by
      intro r hr
      obtain ⟨cs', h2, h3⟩ := hrow r (by omega)
      rw [ce] at h2
      obtain ⟨_, hlen, hcell⟩ := World.cells?_some h2
      have hbr : ∀ y ∈ (D r).weights Tryd.prog 61, y ≤ reachBytes := fun y hy => hall y (List.mem_cons_of_mem _ (List.mem_append_left _ (wA_at (by simp; exact ⟨r, hr, rfl⟩) y hy)))
      obtain ⟨y, rfl, hN⟩ := act1_cells hlen hbr h3
      refine ⟨y, hN, fun j hj => ?_⟩
      have e := hcell j (by omega)
      rw [Go.Deep.add_add] at e
      rw [e, List.getElem?_eq_getElem (by simpa [acL] using hj)]
    obtain ⟨y, hy⟩ := Go.Deep.choose_lt each
    refine ⟨(List.range len0).map y, by simp, ?_, by simp; omega⟩
    intro r x hr
    have hrl : r < len0 := by
      have := (List.getElem?_eq_some_iff.1 hr).1
      simpa using this
    obtain rfl : y r = x := by simpa [hrl] using hr
    obtain ⟨b, off, spot⟩ := a
    have hc0 : W.cell? (Addr.add ⟨b, off, spot⟩ (0 * 6 + 0)) = some (.int .i64 (y 0).k) := (hy 0 (by omega)).2 0 (by decide)
    have hspot : spot = none := by simpa [Addr.add] using World.cell?_spot hc0
    subst hspot
    have f : ∀ j, j < 6 → W.cell? ⟨b, off + (r * 6 + j), none⟩ = (acL (y r))[j]? := fun j hj => by have := (hy r hrl).2 j hj; rwa [Addr.add_lit] at this
    exact ⟨b, off, rfl, (hy r hrl).1, f 0 (by decide), f 1 (by decide), f 2 (by decide), f 3 (by decide), f 4 (by decide), f 5 (by decide)⟩


end Go.Proofs.YtpfjfgggacpdfaaDoor
end
