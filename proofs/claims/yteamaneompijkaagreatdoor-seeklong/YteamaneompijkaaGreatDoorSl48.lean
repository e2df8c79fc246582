/- Layer 5: what the list of package-level variables gives: the table of classes and utf8's two tables; bytealg's limit holds some number; a world for the witness. · Layer 10: an argument that is a Long: three byte strings and two numbers, of whatever size (the first form). -/
import Derived.Test.YteamaneompijkaaGreatDoorSl40
import Derived.Test.YteamaneompijkaaGreatDoorSl13
import Derived.Lib.LaidU8T
import Derived.Shelf.Vars
import Derived.Test.YteamaneompijkaaGreatDoorSl45

section
namespace Go.Proofs.YteamaneompijkaaGreatDoor
open Go.ChangeShapes Go.WideShapes Go.ChangeAt Go.RowKit

def renW : Go.Shelf.Ren := ⟨fun n => n, fun | 5 => 5 | 119 => 227 | 138 => 229 | 139 => 230 | n => n, fun | 3 => 1 | 4 => 2 | n => n⟩
theorem first_eq : (Rows.laid_unicode_utf8_first : DataW Unit) = Lib.firstData := by kernel_rfl
theorem accept_eq : (Rows.laid_unicode_utf8_acceptRanges : DataW Unit) = Lib.acceptData := by kernel_rfl
theorem typesW : U8Types Tryz.prog renW := ⟨Tryz.underlying5, Tryz.underlying227, Tryz.underlying229, Tryz.underlying230⟩
theorem extraW : U8Extra Tryz.prog renW := ⟨by kernel_rfl, by kernel_rfl, by kernel_rfl, by kernel_rfl, by kernel_rfl, by kernel_rfl, by kernel_rfl⟩

theorem wt_of {W : World} (h : laidMetH Tryz.prog [("galley/octet.classes", Rows.laid_galley_octet_classes), ("unicode/utf8.acceptRanges", Rows.laid_unicode_utf8_acceptRanges), ("unicode/utf8.first", Rows.laid_unicode_utf8_first)] W) (hs : W.ShapedOpen Tryz.prog) : Wt W := by
  have h : laidMet Tryz.prog [("galley/octet.classes", Rows.laid_galley_octet_classes), ("unicode/utf8.acceptRanges", Rows.laid_unicode_utf8_acceptRanges), ("unicode/utf8.first", Rows.laid_unicode_utf8_first)] W := h
  have hf := Lib.laidMet.reads h (n := "unicode/utf8.first") (d := Rows.laid_unicode_utf8_first) (by simp)
  have ha := Lib.laidMet.reads h (n := "unicode/utf8.acceptRanges") (d := Rows.laid_unicode_utf8_acceptRanges) (by simp)
  rw [first_eq] at hf
  rw [accept_eq] at ha
  have hu := utf8Tabs_of_readsT typesW extraW hf ha
  have hm : ∃ m, W.cell? ⟨3, 0, none⟩ = some (.int .i64 m) :=
    cell_of_shapedOpen_int (zero := #[.int .i64 0]) (t := 3) hs (of_decide_eq_true (by kernel_rfl)) (by kernel_rfl) rfl (by kernel_rfl) (by kernel_rfl) Tryz.underlying3
  rw [laid_eq] at h
  have t := Lib.tabIs_of_head gTab gTabType Tryz.underlying206 Tryz.underlying5 cellsByte cellsTab h
  have hT : Tab W := by
    intro b h0 h1
    have hl : tab.length = 245 := by simp [tab]
    have := t.cell gTab b.toNat (by rw [hl]; omega)
    rw [this]
    have hb : b.toNat < 245 := by omega
    have e : tab.getD b.toNat 0 = cls b := by
      simp [tab, List.getD, hb, Int.toNat_of_nonneg h0]
    rw [e]
  have hms : 3 < W.heap.size := by
    obtain ⟨m, h2⟩ := hm
    rcases Nat.lt_or_ge 3 W.heap.size with e | e
    · exact e
    · simp [World.cell?, Array.getElem?_eq_none e] at h2
  have hts := hT.size
  exact ⟨hT, hu, hm, by omega⟩

def tabF : List Int := (List.range 256).map fun (i : Nat) => ((Lib.firstT i : Nat) : Int)
def tabA : List Int := (List.range 16).flatMap fun (i : Nat) => [((Lib.accLo i : Nat) : Int), ((Lib.accHi i : Nat) : Int)]
noncomputable def laidWorldW (os : Os) : World :=
  { World.holding Tryz.prog os ⟨#[], #[], []⟩ with heap := ((((World.holding Tryz.prog os ⟨#[], #[], []⟩).heap.modify 0 fun
      | .cells _ t frozen => .cells (tab.map (Value.int .u8)).toArray t frozen
      | o => o).modify 1 fun
      | .cells _ t frozen => .cells (tabF.map (Value.int .u8)).toArray t frozen
      | o => o).modify 2 fun
      | .cells _ t frozen => .cells (tabA.map (Value.int .u8)).toArray t frozen
      | o => o) }
end Go.Proofs.YteamaneompijkaaGreatDoor
end

section
namespace Go.Proofs.YteamaneompijkaaGreatDoor
open Go.ChangeShapes Go.WideShapes Go.ChangeAt Go.RowKit

theorem wE_atG {H : Type} {P : Program} : ∀ {ts : List TypeId} {ds : List (DataW H)} {j : Nat} {t : TypeId} {d : DataW H}, ts[j]? = some t → ds[j]? = some d → ∀ x ∈ d.weights P t, x ∈ DataW.weightsEach P ts ds
  | [], _, _, _, _, ht, _, _, _ => by simp at ht
  | _ :: _, [], _, _, _, _, hd, _, _ => by simp at hd
  | t0 :: ts, d0 :: ds, 0, t, d, ht, hd, x, hx => by
    simp only [List.getElem?_cons_zero, Option.some.injEq] at ht hd
    subst ht hd
    rw [DataW.weightsEach]
    exact List.mem_append_left _ hx
  | t0 :: ts, d0 :: ds, j + 1, t, d, ht, hd, x, hx => by
    simp only [List.getElem?_cons_succ] at ht hd
    rw [DataW.weightsEach]
    exact List.mem_append_right _ (wE_atG ht hd x hx)
theorem bytesG_of_trod {H : Type} {enc : TypeId × Value → H} {W : World} {n : Nat} {v : Value} {x : DataW H × List MemPlace}
    (h : DataW.trod enc Tryz.prog W 0 (fun _ => true) true n 30 [v] = some x) (hb : ∀ y ∈ x.1.weights Tryz.prog 30, y ≤ reachBytes) :
    ∃ A C l, v = .slice A l.length C ∧ IsN W A C l := by
  rcases open_ints Tryz.underlying30 Tryz.underlying5 (by kernel_rfl) h with ⟨hcs, hx⟩ | ⟨a, len, cap, zs, hcs, _, hl, hm, hz, hx, hcell, hwz⟩
  · simp at hcs
    subst hcs
    exact ⟨none, 0, [], rfl, ⟨by simp, by simp, Or.inl rfl, by simp⟩, fun _ => rfl⟩
  · simp at hcs
    subst hcs
    have hz' : zs.length = cap := by simpa using hz
    subst hx
    simp only [DataW.weights, Tryz.underlying30] at hb
    have hs := hb _ (List.mem_cons_self ..)
    rw [show Tryz.prog.bytesOf 5 = 1 by kernel_rfl] at hs
    have hr : reachBytes = 140737488351232 := rfl
    simp [lits] at hs
    have hlen : (zs.take len).length = len := by simp; omega
    have hby : ∀ x ∈ zs, 0 ≤ x ∧ x ≤ 255 := fun n hn => bounds_u8 (hwz n hn)
    refine ⟨some a, cap, zs.take len, by rw [hlen], ⟨by rw [hlen]; omega, by rw [hlen]; omega, ?_, fun y hy => hby y (List.mem_of_mem_take hy)⟩, fun e => by cases e⟩
    rcases Nat.eq_zero_or_pos len with h0 | h0
    · subst h0; exact Or.inl rfl
    · obtain ⟨b, off, spot⟩ := a
      have hspot : spot = none := by simpa [Addr.add] using World.cell?_spot (hcell 0 (by omega))
      subst hspot
      refine Or.inr ⟨b, off, rfl, fun i hi => ?_⟩
      rw [hlen] at hi
      have e : (zs.take len).getD i 0 = zs.getD i 0 := by simp [List.getD, hi]
      rw [e]
      have hc := hcell i (by omega)
      rw [Addr.add_lit] at hc
      refine ⟨hc, ?_⟩
      have := hby (zs[i]'(by omega)) (List.getElem_mem _)
      simpa [List.getD, List.getElem?_eq_getElem (show i < zs.length by omega)] using this
/-- what came in as a Long -/
structure LgV where
  (fA : Option Addr) (fC : Nat) (fl : List Int) (times : Int) (hA : Option Addr) (hC : Nat) (hd : List Int) (tA : Option Addr) (tC : Nat) (tl : List Int) (at' : Int)
def lgV (q : LgV) : Value := .agg #[.slice q.fA q.fl.length q.fC, .int .i64 q.times, .slice q.hA q.hd.length q.hC, .slice q.tA q.tl.length q.tC, .int .i64 q.at']
structure IsLg (W : World) (q : LgV) : Prop where
  f : IsN W q.fA q.fC q.fl
  h : IsN W q.hA q.hC q.hd
  t : IsN W q.tA q.tC q.tl
  w1 : (Lit.int .i64 q.times).wf = true
  w2 : (Lit.int .i64 q.at').wf = true
theorem one_any {cs : List Value} {k : Nat} (h : k < cs.length) : ∃ v, cs[k]? = some v ∧ (cs.drop k).take 1 = [v] := by
  refine ⟨cs[k], List.getElem?_eq_getElem h, ?_⟩
  rw [List.drop_eq_getElem_cons h]
  rfl
set_option maxRecDepth 100000 in
theorem long_of_trod {H : Type} {enc : TypeId × Value → H} {W : World} {v : Value} {d0 : DataW H} {p0 : List MemPlace} {base : Nat} (hv : Value.okWide Tryz.prog W .any base 38 v)
    (h0 : DataW.Trod enc Tryz.prog W 0 (fun _ => true) true 38 v d0 p0)
    {ts : List TypeId} {ds : List (DataW H)} {j : Nat} (hsz : (DataW.weightsEach Tryz.prog ts ds).all (· ≤ reachBytes) = true) (ht : ts[j]? = some 38) (hd : ds[j]? = some d0) : ∃ q : LgV, v = lgV q ∧ IsLg W q := by
  have hb : ∀ y ∈ d0.weights Tryz.prog 38, y ≤ reachBytes := fun y hy => of_decide_eq_true (List.all_eq_true.1 hsz y (wE_atG ht hd y hy))
  obtain ⟨cs, rfl, hs⟩ := okWide_struct Tryz.underlying38 hv
  obtain ⟨fuel, hf⟩ := h0
  obtain ⟨xs, n, _, hxx, _, hx, hall⟩ := DataW.trod_struct Tryz.underlying38 hf
  have hs' : cs.size = 5 := hs.trans (by kernel_rfl)
  have hx' : xs.length = 5 := hx
  have hl : cs.toList.length = 5 := by simpa using hs'
  have hc : Tryz.prog.cellsOf 3 = 1 := by kernel_rfl
  have hc2 : Tryz.prog.cellsOf 30 = 1 := by kernel_rfl
  have j0 : DataW.trod enc Tryz.prog W 0 (fun _ => true) true n 30 ((cs.toList.drop 0).take (Tryz.prog.cellsOf 30)) = xs[0]? := hall 0 _ rfl
  have j1 : DataW.trod enc Tryz.prog W 0 (fun _ => true) true n 3 ((cs.toList.drop 1).take (Tryz.prog.cellsOf 3)) = xs[1]? := hall 1 _ rfl
  have j2 : DataW.trod enc Tryz.prog W 0 (fun _ => true) true n 30 ((cs.toList.drop 2).take (Tryz.prog.cellsOf 30)) = xs[2]? := hall 2 _ rfl
  have j3 : DataW.trod enc Tryz.prog W 0 (fun _ => true) true n 30 ((cs.toList.drop 3).take (Tryz.prog.cellsOf 30)) = xs[3]? := hall 3 _ rfl
  have j4 : DataW.trod enc Tryz.prog W 0 (fun _ => true) true n 3 ((cs.toList.drop 4).take (Tryz.prog.cellsOf 3)) = xs[4]? := hall 4 _ rfl
  rw [hc] at j1 j4
  obtain ⟨v0, e0, t0⟩ := one_any (cs := cs.toList) (k := 0) (by omega)
  obtain ⟨v2, e2, t2⟩ := one_any (cs := cs.toList) (k := 2) (by omega)
  obtain ⟨v3, e3, t3⟩ := one_any (cs := cs.toList) (k := 3) (by omega)
  rw [hc2, t0, List.getElem?_eq_getElem (show 0 < xs.length by omega)] at j0
  rw [hc2, t2, List.getElem?_eq_getElem (show 2 < xs.length by omega)] at j2
  rw [hc2, t3, List.getElem?_eq_getElem (show 3 < xs.length by omega)] at j3
  have hw : ∀ i (hi : i < xs.length) t, (#[30, 3, 30, 30, 3] : Array TypeId).toList[i]? = some t → ∀ y ∈ (xs[i]'hi).1.weights Tryz.prog t, y ≤ reachBytes := fun i hi t hti y hy => by
    have h1 : (xs.map fun x => x.1)[i]? = some (xs[i]'hi).1 := by simp [List.getElem?_eq_getElem hi]
    refine hb y ?_
    have hxx' : d0 = _ := congrArg Prod.fst hxx
    rw [hxx']
    simp only [DataW.weights, Tryz.underlying38]
    exact wE_atG (j := i) hti h1 y hy
  obtain ⟨fA, fC, fl, q0, n0⟩ := bytesG_of_trod j0 (hw 0 (by omega) _ rfl)
  obtain ⟨hA, hC, hdl, q2, n2⟩ := bytesG_of_trod j2 (hw 2 (by omega) _ rfl)
  obtain ⟨tA, tC, tl, q3, n3⟩ := bytesG_of_trod j3 (hw 3 (by omega) _ rfl)
  obtain ⟨x1, e1, w1⟩ := one_intK Tryz.underlying3 (by omega) j1
  obtain ⟨x4, e4, w4⟩ := one_intK Tryz.underlying3 (by omega) j4
  refine ⟨⟨fA, fC, fl, x1, hA, hC, hdl, tA, tC, tl, x4⟩, ?_, ⟨n0, n2, n3, w1, w4⟩⟩
  unfold lgV
  dsimp only
  congr 1
  apply Array.ext'
  apply List.ext_getElem?
  intro i
  match i with
  | 0 => rw [e0, q0]; rfl
  | 1 => exact e1
  | 2 => rw [e2, q2]; rfl
  | 3 => rw [e3, q3]; rfl
  | 4 => exact e4
  | i + 5 => rw [List.getElem?_eq_none (by omega)]; rfl
end Go.Proofs.YteamaneompijkaaGreatDoor
end
