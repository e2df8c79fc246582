/- Layer 13: arguments: bytes and a list of operations that came in, of whatever size. · Layer 13: a list of changes that came in under the second form's bound. · A list of operations that came in under the second form's bound. · Arguments that are a Mark: a name and two numbers; two numbers. -/
import Derived.Test.YtfllomlighlejaaRows
import Derived.Test.YtfllomlighlejaaMo30
import Derived.SizedLaws
import Derived.LaidLaws
import Derived.Deep.DeepHandedRow
import Derived.Deep.Slices
import Derived.Deep.SlicePairs
import Derived.OpenShut
import Derived.Test.YtfllomlighlejaaMo00

section
namespace Go.Proofs.Ytfllomlighlejaa
open Go.ChangeShapes Go.WideShapes Go.ChangeAt Go.RowKit

theorem ownC : ownKnob Try.prog.godebug = none := by kernel_rfl
theorem laidOut : laidOutB Try.prog = true := by kernel_rfl
noncomputable def laidWorld (os : Os) : World := World.holding Try.prog os ⟨#[], #[], []⟩
/-- a []byte that came in reads as these bytes -/
theorem row_of_trod {H : Type} {enc : TypeId × Value → H} {W : World} {a0 : Option Addr} {len0 cap0 : Nat} {d0 : DataW H} {p0 : List MemPlace}
    (h0 : DataW.Trod enc Try.prog W 0 (fun _ => true) true 120 (Value.slice a0 len0 cap0) d0 p0)
    {ts : List TypeId} {ds : List (DataW H)} {j : Nat} (hsz : (DataW.weightsEach Try.prog ts ds).all (· ≤ reachBytes) = true) (ht : ts[j]? = some 120) (hd : ds[j]? = some d0) :
    ∃ l : List Int, len0 = l.length ∧ IsB W a0 cap0 l := by
  obtain ⟨fuel, hf⟩ := h0
  rcases open_ints Try.underlying120 Try.underlying5 (by kernel_rfl) hf with ⟨hcs, _⟩ | ⟨x, l, c, zs, hcs, _, hl, hm, hz, hx, hcell, hwz⟩
  · simp [Value.cells] at hcs
    obtain ⟨rfl, rfl, rfl⟩ := hcs
    exact ⟨[], rfl, by simp, by simp, Or.inl rfl, by simp⟩
  · simp [Value.cells] at hcs
    obtain ⟨rfl, rfl, rfl⟩ := hcs
    simp only [Prod.mk.injEq] at hx
    obtain ⟨rfl, _⟩ := hx
    have hz' : zs.length = cap0 := by simpa using hz
    have hs := sized_slice hsz ht hd Try.underlying120
    rw [show Try.prog.bytesOf 5 = 1 by kernel_rfl] at hs
    have hr : reachBytes = 140737488351232 := rfl
    simp [lits] at hs
    have hlen : (zs.take len0).length = len0 := by simp; omega
    have hby : ∀ x ∈ zs, 0 ≤ x ∧ x ≤ 255 := fun n hn => bounds_u8 (hwz n hn)
    refine ⟨zs.take len0, hlen.symm, by rw [hlen]; omega, by rw [hlen]; omega, ?_, fun y hy => hby y (List.mem_of_mem_take hy)⟩
    rcases Nat.eq_zero_or_pos len0 with h0 | h0
    · subst h0; exact Or.inl rfl
    · obtain ⟨b, off, spot⟩ := x
      have hspot : spot = none := by simpa [Addr.add] using World.cell?_spot (hcell 0 (by omega))
      subst hspot
      refine Or.inr ⟨b, off, rfl, fun i hi => ?_⟩
      rw [hlen] at hi
      have e : (zs.take len0).getD i 0 = zs.getD i 0 := by simp [List.getD, hi]
      rw [e]
      have hc := hcell i (by omega)
      rw [Addr.add_lit] at hc
      refine ⟨hc, ?_⟩
      have := hby (zs[i]'(by omega)) (List.getElem_mem _)
      simpa [List.getD, List.getElem?_eq_getElem (show i < zs.length by omega)] using this
theorem one_intO {H : Type} {enc : TypeId × Value → H} {P : Program} {W : World} {spare : Nat → Bool} {m : Nat} {t : TypeId} (ht : P.underlying t = some (.int .i64)) {xs : List (DataW H × List MemPlace)} {L : List Value} {i k : Nat} (hi : i < xs.length)
    (h : DataW.trod enc P W 0 spare true m t ((L.drop k).take 1) = xs[i]?) : ∃ n : Int, L[k]? = some (.int .i64 n) := by
  rw [List.getElem?_eq_getElem hi] at h
  obtain ⟨n, hn, _⟩ := DataW.trod_int ht h
  refine ⟨n, ?_⟩
  have := congrArg (·[0]?) hn
  simpa [List.getElem?_take, List.getElem?_drop] using this
theorem one_strO {H : Type} {enc : TypeId × Value → H} {P : Program} {W : World} {spare : Nat → Bool} {m : Nat} {t : TypeId} (ht : P.underlying t = some .string) {xs : List (DataW H × List MemPlace)} {L : List Value} {i k : Nat} (hi : i < xs.length)
    (h : DataW.trod enc P W 0 spare true m t ((L.drop k).take 1) = xs[i]?) : ∃ s : ByteArray, L[k]? = some (.string s) ∧ (xs[i]'hi).1 = .lit (.string s.data.toList) := by
  rw [List.getElem?_eq_getElem hi] at h
  obtain ⟨n, hn, hx⟩ := DataW.trod_string ht h
  refine ⟨n, ?_, by rw [hx.1]⟩
  have := congrArg (·[0]?) hn
  simpa [List.getElem?_take, List.getElem?_drop] using this
/-- a string's bytes as numbers -/
def numsO (s : ByteArray) : List Int := s.data.toList.map fun u => (u.toNat : Int)
theorem numsO_in (s : ByteArray) : ∀ x ∈ numsO s, 0 ≤ x ∧ x ≤ 255 := by
  intro x hx
  obtain ⟨u, _, rfl⟩ := List.mem_map.1 hx
  have := u.toNat_lt
  omega
theorem str_numsO (s : ByteArray) : strOfNums (numsO s) = s := by
  unfold strOfNums numsO
  apply ByteArray.ext
  have e : ((fun n : Int => UInt8.ofNat n.toNat) ∘ fun u : UInt8 => (u.toNat : Int)) = id := by
    funext u
    simp
  rw [List.map_map, e, List.map_id]
theorem wE_atO {H : Type} {P : Program} : ∀ {ts : List TypeId} {ds : List (DataW H)} {j : Nat} {t : TypeId} {d : DataW H}, ts[j]? = some t → ds[j]? = some d → ∀ x ∈ d.weights P t, x ∈ DataW.weightsEach P ts ds
  | [], _, _, _, _, ht, _, _, _ => by simp at ht
  | _ :: _, [], _, _, _, _, hd, _, _ => by simp at hd
  | t0 :: ts, d0 :: ds, 0, t, d, ht, hd, x, hx => by
    simp only [List.getElem?_cons_zero, Option.some.injEq] at ht hd
    subst ht hd
    rw [DataW.weightsEach]
    exact List.mem_append_left _ hx
  | t0 :: ts, d0 :: ds, j + 1, t, d, ht, hd, x, hx => by
    simp only [List.getElem?_cons_succ] at ht hd
    rw [DataW.weightsEach]
    exact List.mem_append_right _ (wE_atO ht hd x hx)
theorem wA_atO {H : Type} {P : Program} {e : TypeId} : ∀ {l : List (DataW H)} {d : DataW H}, d ∈ l → ∀ x ∈ d.weights P e, x ∈ DataW.weightsAll P e l
  | [], _, h, _, _ => by simp at h
  | d0 :: r, d, h, x, hx => by
    rw [DataW.weightsAll]
    rcases List.mem_cons.1 h with rfl | h
    · exact List.mem_append_left _ hx
    · exact List.mem_append_right _ (wA_atO h x hx)
instance : Inhabited Dop := ⟨opZ⟩
set_option maxRecDepth 100000 in
theorem op_cells {H : Type} {enc : TypeId × Value → H} {W : World} {cs : List Value} {fuel : Nat} {x : DataW H × List MemPlace}
    (hl : cs.length = 3) (hb : ∀ y ∈ x.1.weights Try.prog 50, y ≤ reachBytes) (hf : DataW.trod enc Try.prog W 0 (fun _ => true) true fuel 50 cs = some x) : ∃ q : Dop, cs = opL q ∧ TbD q ∧ q.t.length ≤ 140737488355328 := by
  obtain ⟨xs, n, _, hxx, _, hx, hall⟩ := DataW.trod_struct Try.underlying50 hf
  have hx' : xs.length = 3 := hx
  have hc : Try.prog.cellsOf 3 = 1 := by kernel_rfl
  have hc1 : Try.prog.cellsOf 48 = 1 := by kernel_rfl
  have hc2 : Try.prog.cellsOf 9 = 1 := by kernel_rfl
  have j0 : DataW.trod enc Try.prog W 0 (fun _ => true) true n 48 ((cs.drop 0).take (Try.prog.cellsOf 48)) = xs[0]? := hall 0 _ rfl
  have j1 : DataW.trod enc Try.prog W 0 (fun _ => true) true n 3 ((cs.drop 1).take (Try.prog.cellsOf 3)) = xs[1]? := hall 1 _ rfl
  have j2 : DataW.trod enc Try.prog W 0 (fun _ => true) true n 9 ((cs.drop 2).take (Try.prog.cellsOf 9)) = xs[2]? := hall 2 _ rfl
  rw [hc1] at j0
  rw [hc] at j1
  rw [hc2] at j2
  obtain ⟨k, e0⟩ := one_intO Try.underlying48 (by omega) j0
  obtain ⟨m, e1⟩ := one_intO Try.underlying3 (by omega) j1
  obtain ⟨s, e2, es⟩ := one_strO Try.underlying9 (by omega) j2
  refine ⟨⟨k, m, numsO s⟩, ?_, numsO_in s, ?_⟩
  · unfold opL
    dsimp only
    rw [str_numsO]
    apply List.ext_getElem?
    intro i
    match i with
    | 0 => exact e0
    | 1 => exact e1
    | 2 => exact e2
    | i + 3 => rw [List.getElem?_eq_none (by omega)]; rfl
  · have h1 : (xs.map fun x => x.1)[2]? = some (xs[2]'(by omega)).1 := by simp [List.getElem?_eq_getElem (show 2 < xs.length by omega)]
    have hr : reachBytes = 140737488351232 := rfl
    have := hb s.data.toList.length (by
      rw [hxx]
      simp only [DataW.weights, Try.underlying50]
      refine wE_atO (j := 2) (t := 9) rfl h1 _ ?_
      rw [es]
      simp [DataW.weights])
    simp only [numsO, List.length_map]
    omega
set_option maxRecDepth 100000 in
/-- the list of operations -/
theorem ops_of_trod {H : Type} {enc : TypeId × Value → H} {W : World} {a0 : Option Addr} {len0 cap0 : Nat} {d0 : DataW H} {p0 : List MemPlace}
    (h0 : DataW.Trod enc Try.prog W 0 (fun _ => true) true 24 (Value.slice a0 len0 cap0) d0 p0)
    {ts : List TypeId} {ds : List (DataW H)} {j : Nat} (hsz : (DataW.weightsEach Try.prog ts ds).all (· ≤ reachBytes) = true) (ht : ts[j]? = some 24) (hd : ds[j]? = some d0) :
    ∃ q : List Dop, len0 = q.length ∧ IsO W a0 q ∧ (q = [] ∨ ∃ p, a0 = some p) ∧ q.length * 32 ≤ 140737488355328 ∧ ∀ o ∈ q, TbD o ∧ o.t.length ≤ 140737488355328 := by
  have hall : ∀ y ∈ d0.weights Try.prog 24, y ≤ reachBytes := fun y hy => of_decide_eq_true (List.all_eq_true.1 hsz y (wE_atO ht hd y hy))
  obtain ⟨fuel, hf⟩ := h0
  rcases Go.Deep.open_slice Try.underlying24 hf with ⟨hcs, _⟩ | ⟨a, len, cap, m, n, D, Pl, hcs, _, hl, hm, hmm, hx, hrow⟩
  · simp [Value.cells] at hcs
    obtain ⟨rfl, rfl, rfl⟩ := hcs
    exact ⟨[], rfl, Or.inl rfl, Or.inl rfl, by simp, by simp⟩
  · simp [Value.cells] at hcs
    obtain ⟨rfl, rfl, rfl⟩ := hcs
    simp only [Prod.mk.injEq] at hx
    obtain ⟨rfl, _⟩ := hx
    have hs := sized_slice hsz ht hd Try.underlying24
    rw [show Try.prog.bytesOf 50 = 32 by kernel_rfl] at hs
    have hr : reachBytes = 140737488351232 := rfl
    simp only [List.length_map, List.length_range] at hs
    simp only [DataW.weights, Try.underlying24] at hall
    simp only [if_true] at hmm
    subst hmm
    have ce : Try.prog.cellsOf 50 = 3 := by kernel_rfl
    have each : ∀ r, r < len0 → ∃ y : Dop, (TbD y ∧ y.t.length ≤ 140737488355328) ∧ ∀ j, j < 3 → W.cell? (a.add (r * 3 + j)) = (opL y)[j]? := by
      intro r hr
      obtain ⟨cs', h1, h2⟩ := hrow r (by omega)
      rw [ce] at h1
      obtain ⟨_, hlen, hcell⟩ := World.cells?_some h1
      have hbr : ∀ y ∈ (D r).weights Try.prog 50, y ≤ reachBytes := fun y hy => hall y (List.mem_cons_of_mem _ (List.mem_append_left _ (wA_atO (by simp; exact ⟨r, hr, rfl⟩) y hy)))
      obtain ⟨y, rfl, hby⟩ := op_cells hlen hbr h2
      refine ⟨y, hby, fun j hj => ?_⟩
      have e := hcell j (by omega)
      rw [Go.Deep.add_add] at e
      rw [e, List.getElem?_eq_getElem (by simpa [opL] using hj)]
    obtain ⟨y, hy⟩ := Go.Deep.choose_lt each
    refine ⟨(List.range len0).map y, by simp, ?_, Or.inr ⟨_, rfl⟩, by simp; omega, ?_⟩
    · rcases Nat.eq_zero_or_pos len0 with h0 | h0
      · subst h0; exact Or.inl rfl
      · obtain ⟨b, off, spot⟩ := a
        have hc1 : W.cell? (Addr.add ⟨b, off, spot⟩ (0 * 3 + 0)) = some (.int .i64 (y 0).k) := (hy 0 (by omega)).2 0 (by decide)
        have hspot : spot = none := by simpa [Addr.add] using World.cell?_spot hc1
        subst hspot
        have hbl : b < W.heap.size := by
          rcases Nat.lt_or_ge b W.heap.size with h | h
          · exact h
          · rw [Addr.add_lit] at hc1
            simp [World.cell?, Array.getElem?_eq_none h] at hc1
        refine Or.inr ⟨b, off, rfl, hbl, fun r hr => ?_⟩
        simp only [List.length_map, List.length_range] at hr
        have hgr : ((List.range len0).map y).getD r opZ = y r := by simp [List.getD, hr]
        rw [hgr]
        have f : ∀ j, j < 3 → W.cell? ⟨b, off + (r * 3 + j), none⟩ = (opL (y r))[j]? := fun j hj => by have := (hy r hr).2 j hj; rwa [Addr.add_lit] at this
        exact ⟨f 0 (by decide), f 1 (by decide), f 2 (by decide)⟩
    · intro o ho
      obtain ⟨r, hr, rfl⟩ := List.mem_map.1 ho
      exact (hy r (by simpa using hr)).1
end Go.Proofs.Ytfllomlighlejaa
end

section
namespace Go.Proofs.Ytfllomlighlejaa
open Go.ChangeShapes Go.WideShapes Go.ChangeAt Go.RowKit

theorem bulk_pos {H : Type} (d : DataW H) : 0 < Rows.uptoBulk d := by
  cases d with
  | lit l => cases l <;> simp [Rows.uptoBulk]
  | _ => simp [Rows.uptoBulk]
theorem bulk_count {H : Type} : ∀ l : List (DataW H), l.length ≤ Rows.uptoBulkAll l
  | [] => Nat.zero_le _
  | d :: r => by
    have h1 := bulk_pos d
    have h2 := bulk_count r
    simp only [List.length_cons, Rows.uptoBulkAll]
    omega
theorem bulk_at {H : Type} : ∀ {l : List (DataW H)} {j : Nat} {d : DataW H}, l[j]? = some d → Rows.uptoBulk d ≤ Rows.uptoBulkAll l
  | [], _, _, h => by simp at h
  | e :: r, 0, d, h => by
    simp only [List.getElem?_cons_zero, Option.some.injEq] at h
    subst h
    simp only [Rows.uptoBulkAll]
    omega
  | e :: r, j + 1, d, h => by
    have := bulk_at (l := r) (j := j) (by simpa using h)
    simp only [Rows.uptoBulkAll]
    omega

set_option maxRecDepth 100000 in
theorem ch_cells {H : Type} {enc : TypeId × Value → H} {W : World} {cs : List Value} {fuel : Nat} {x : DataW H × List MemPlace}
    (hl : cs.length = 3) (hb : Rows.uptoBulk x.1 ≤ 1048576) (hf : DataW.trod enc Try.prog W 0 (fun _ => true) true fuel 92 cs = some x) : ∃ q : Dop, cs = opL q ∧ TbD q ∧ q.t.length ≤ 1048576 := by
  obtain ⟨xs, n, _, hxx, _, hx, hall⟩ := DataW.trod_struct Try.underlying92 hf
  have hx' : xs.length = 3 := hx
  have hc : Try.prog.cellsOf 3 = 1 := by kernel_rfl
  have hc2 : Try.prog.cellsOf 9 = 1 := by kernel_rfl
  have j0 : DataW.trod enc Try.prog W 0 (fun _ => true) true n 3 ((cs.drop 0).take (Try.prog.cellsOf 3)) = xs[0]? := hall 0 _ rfl
  have j1 : DataW.trod enc Try.prog W 0 (fun _ => true) true n 3 ((cs.drop 1).take (Try.prog.cellsOf 3)) = xs[1]? := hall 1 _ rfl
  have j2 : DataW.trod enc Try.prog W 0 (fun _ => true) true n 9 ((cs.drop 2).take (Try.prog.cellsOf 9)) = xs[2]? := hall 2 _ rfl
  rw [hc] at j0 j1
  rw [hc2] at j2
  obtain ⟨k, e0⟩ := one_intO Try.underlying3 (by omega) j0
  obtain ⟨m, e1⟩ := one_intO Try.underlying3 (by omega) j1
  obtain ⟨s, e2, es⟩ := one_strO Try.underlying9 (by omega) j2
  refine ⟨⟨k, m, numsO s⟩, ?_, numsO_in s, ?_⟩
  · unfold opL
    dsimp only
    rw [str_numsO]
    apply List.ext_getElem?
    intro i
    match i with
    | 0 => exact e0
    | 1 => exact e1
    | 2 => exact e2
    | i + 3 => rw [List.getElem?_eq_none (by omega)]; rfl
  · have h1 : (xs.map fun x => x.1)[2]? = some (xs[2]'(by omega)).1 := by simp [List.getElem?_eq_getElem (show 2 < xs.length by omega)]
    have h2 := bulk_at h1
    rw [hxx] at hb
    simp only [Rows.uptoBulk] at hb
    rw [es] at h2
    simp only [Rows.uptoBulk] at h2
    simp only [numsO, List.length_map]
    omega
set_option maxRecDepth 100000 in
/-- the list of changes, under the second form's bound -/
theorem chgs_of_trod {H : Type} {enc : TypeId × Value → H} {W : World} {a0 : Option Addr} {len0 cap0 : Nat} {d0 : DataW H} {p0 : List MemPlace}
    (h0 : DataW.Trod enc Try.prog W 0 (fun _ => true) true 70 (Value.slice a0 len0 cap0) d0 p0)
    {ds : List (DataW H)} {j : Nat} (hk : Rows.uptoSmall H ds = true) (hd : ds[j]? = some d0) :
    ∃ q : List Dop, len0 = q.length ∧ IsO W a0 q ∧ (q = [] ∨ ∃ p, a0 = some p) ∧ q.length ≤ 1048576 ∧ ∀ o ∈ q, TbD o ∧ o.t.length ≤ 1048576 := by
  have hb : Rows.uptoBulkAll ds ≤ 1048576 := of_decide_eq_true hk
  have h1 := bulk_at hd
  obtain ⟨fuel, hf⟩ := h0
  rcases Go.Deep.open_slice Try.underlying70 hf with ⟨hcs, _⟩ | ⟨a, len, cap, m, n, D, Pl, hcs, _, hl, hm, hmm, hx, hrow⟩
  · simp [Value.cells] at hcs
    obtain ⟨rfl, rfl, rfl⟩ := hcs
    exact ⟨[], rfl, Or.inl rfl, Or.inl rfl, by simp, by simp⟩
  · simp [Value.cells] at hcs
    obtain ⟨rfl, rfl, rfl⟩ := hcs
    simp only [Prod.mk.injEq] at hx
    obtain ⟨rfl, _⟩ := hx
    simp only [if_true] at hmm
    subst hmm
    simp only [Rows.uptoBulk] at h1
    have hcount := bulk_count (H := H) ((List.range len0).map D)
    rw [List.length_map, List.length_range] at hcount
    have ce : Try.prog.cellsOf 92 = 3 := by kernel_rfl
    have each : ∀ r, r < len0 → ∃ y : Dop, (TbD y ∧ y.t.length ≤ 1048576) ∧ ∀ j, j < 3 → W.cell? (a.add (r * 3 + j)) = (opL y)[j]? := by
      intro r hr
      obtain ⟨cs', h3, h2⟩ := hrow r (by omega)
      rw [ce] at h3
      obtain ⟨_, hlen, hcell⟩ := World.cells?_some h3
      have hbr : Rows.uptoBulk (D r) ≤ 1048576 := by
        have := bulk_at (H := H) (l := (List.range len0).map D) (j := r) (d := D r) (by simp [hr])
        omega
      obtain ⟨y, rfl, hby⟩ := ch_cells hlen hbr h2
      refine ⟨y, hby, fun j hj => ?_⟩
      have e := hcell j (by omega)
      rw [Go.Deep.add_add] at e
      rw [e, List.getElem?_eq_getElem (by simpa [opL] using hj)]
    obtain ⟨y, hy⟩ := Go.Deep.choose_lt each
    refine ⟨(List.range len0).map y, by simp, ?_, Or.inr ⟨_, rfl⟩, by simp; omega, ?_⟩
    · rcases Nat.eq_zero_or_pos len0 with h0 | h0
      · subst h0; exact Or.inl rfl
      · obtain ⟨b, off, spot⟩ := a
        have hc1 : W.cell? (Addr.add ⟨b, off, spot⟩ (0 * 3 + 0)) = some (.int .i64 (y 0).k) := (hy 0 (by omega)).2 0 (by decide)
        have hspot : spot = none := by simpa [Addr.add] using World.cell?_spot hc1
        subst hspot
        have hbl : b < W.heap.size := by
          rcases Nat.lt_or_ge b W.heap.size with h | h
          · exact h
          · rw [Addr.add_lit] at hc1
            simp [World.cell?, Array.getElem?_eq_none h] at hc1
        refine Or.inr ⟨b, off, rfl, hbl, fun r hr => ?_⟩
        simp only [List.length_map, List.length_range] at hr
        have hgr : ((List.range len0).map y).getD r opZ = y r := by simp [List.getD, hr]
        rw [hgr]
        have f : ∀ j, j < 3 → W.cell? ⟨b, off + (r * 3 + j), none⟩ = (opL (y r))[j]? := fun j hj => by have := (hy r hr).2 j hj; rwa [Addr.add_lit] at this
        exact ⟨f 0 (by decide), f 1 (by decide), f 2 (by decide)⟩
    · intro o ho
      obtain ⟨r, hr, rfl⟩ := List.mem_map.1 ho
      exact (hy r (by simpa using hr)).1
end Go.Proofs.Ytfllomlighlejaa
end

section
namespace Go.Proofs.Ytfllomlighlejaa
open Go.ChangeShapes Go.WideShapes Go.ChangeAt Go.RowKit

set_option maxRecDepth 100000 in
theorem op_cellsU {H : Type} {enc : TypeId × Value → H} {W : World} {cs : List Value} {fuel : Nat} {x : DataW H × List MemPlace}
    (hl : cs.length = 3) (hb : Rows.uptoBulk x.1 ≤ 1048576) (hf : DataW.trod enc Try.prog W 0 (fun _ => true) true fuel 50 cs = some x) : ∃ q : Dop, cs = opL q ∧ TbD q ∧ q.t.length ≤ 1048576 := by
  obtain ⟨xs, n, _, hxx, _, hx, hall⟩ := DataW.trod_struct Try.underlying50 hf
  have hx' : xs.length = 3 := hx
  have hc : Try.prog.cellsOf 3 = 1 := by kernel_rfl
  have hc2 : Try.prog.cellsOf 9 = 1 := by kernel_rfl
  have hc1 : Try.prog.cellsOf 48 = 1 := by kernel_rfl
  have j0 : DataW.trod enc Try.prog W 0 (fun _ => true) true n 48 ((cs.drop 0).take (Try.prog.cellsOf 48)) = xs[0]? := hall 0 _ rfl
  have j1 : DataW.trod enc Try.prog W 0 (fun _ => true) true n 3 ((cs.drop 1).take (Try.prog.cellsOf 3)) = xs[1]? := hall 1 _ rfl
  have j2 : DataW.trod enc Try.prog W 0 (fun _ => true) true n 9 ((cs.drop 2).take (Try.prog.cellsOf 9)) = xs[2]? := hall 2 _ rfl
  rw [hc1] at j0
  rw [hc] at j1
  rw [hc2] at j2
  obtain ⟨k, e0⟩ := one_intO Try.underlying48 (by omega) j0
  obtain ⟨m, e1⟩ := one_intO Try.underlying3 (by omega) j1
  obtain ⟨s, e2, es⟩ := one_strO Try.underlying9 (by omega) j2
  refine ⟨⟨k, m, numsO s⟩, ?_, numsO_in s, ?_⟩
  · unfold opL
    dsimp only
    rw [str_numsO]
    apply List.ext_getElem?
    intro i
    match i with
    | 0 => exact e0
    | 1 => exact e1
    | 2 => exact e2
    | i + 3 => rw [List.getElem?_eq_none (by omega)]; rfl
  · have h1 : (xs.map fun x => x.1)[2]? = some (xs[2]'(by omega)).1 := by simp [List.getElem?_eq_getElem (show 2 < xs.length by omega)]
    have h2 := bulk_at h1
    rw [hxx] at hb
    simp only [Rows.uptoBulk] at hb
    rw [es] at h2
    simp only [Rows.uptoBulk] at h2
    simp only [numsO, List.length_map]
    omega
set_option maxRecDepth 100000 in
/-- the list of operations, under the second form's bound -/
theorem opsU_of_trod {H : Type} {enc : TypeId × Value → H} {W : World} {a0 : Option Addr} {len0 cap0 : Nat} {d0 : DataW H} {p0 : List MemPlace}
    (h0 : DataW.Trod enc Try.prog W 0 (fun _ => true) true 24 (Value.slice a0 len0 cap0) d0 p0)
    {ds : List (DataW H)} {j : Nat} (hk : Rows.uptoSmall H ds = true) (hd : ds[j]? = some d0) :
    ∃ q : List Dop, len0 = q.length ∧ IsO W a0 q ∧ (q = [] ∨ ∃ p, a0 = some p) ∧ q.length ≤ 1048576 ∧ ∀ o ∈ q, TbD o ∧ o.t.length ≤ 1048576 := by
  have hb : Rows.uptoBulkAll ds ≤ 1048576 := of_decide_eq_true hk
  have h1 := bulk_at hd
  obtain ⟨fuel, hf⟩ := h0
  rcases Go.Deep.open_slice Try.underlying24 hf with ⟨hcs, _⟩ | ⟨a, len, cap, m, n, D, Pl, hcs, _, hl, hm, hmm, hx, hrow⟩
  · simp [Value.cells] at hcs
    obtain ⟨rfl, rfl, rfl⟩ := hcs
    exact ⟨[], rfl, Or.inl rfl, Or.inl rfl, by simp, by simp⟩
  · simp [Value.cells] at hcs
    obtain ⟨rfl, rfl, rfl⟩ := hcs
    simp only [Prod.mk.injEq] at hx
    obtain ⟨rfl, _⟩ := hx
    simp only [if_true] at hmm
    subst hmm
    simp only [Rows.uptoBulk] at h1
    have hcount := bulk_count (H := H) ((List.range len0).map D)
    rw [List.length_map, List.length_range] at hcount
    have ce : Try.prog.cellsOf 50 = 3 := by kernel_rfl
    have each : ∀ r, r < len0 → ∃ y : Dop, (TbD y ∧ y.t.length ≤ 1048576) ∧ ∀ j, j < 3 → W.cell? (a.add (r * 3 + j)) = (opL y)[j]? := by
      intro r hr
      obtain ⟨cs', h3, h2⟩ := hrow r (by omega)
      rw [ce] at h3
      obtain ⟨_, hlen, hcell⟩ := World.cells?_some h3
      have hbr : Rows.uptoBulk (D r) ≤ 1048576 := by
        have := bulk_at (H := H) (l := (List.range len0).map D) (j := r) (d := D r) (by simp [hr])
        omega
      obtain ⟨y, rfl, hby⟩ := op_cellsU hlen hbr h2
      refine ⟨y, hby, fun j hj => ?_⟩
      have e := hcell j (by omega)
      rw [Go.Deep.add_add] at e
      rw [e, List.getElem?_eq_getElem (by simpa [opL] using hj)]
    obtain ⟨y, hy⟩ := Go.Deep.choose_lt each
    refine ⟨(List.range len0).map y, by simp, ?_, Or.inr ⟨_, rfl⟩, by simp; omega, ?_⟩
    · rcases Nat.eq_zero_or_pos len0 with h0 | h0
      · subst h0; exact Or.inl rfl
      · obtain ⟨b, off, spot⟩ := a
        have hc1 : W.cell? (Addr.add ⟨b, off, spot⟩ (0 * 3 + 0)) = some (.int .i64 (y 0).k) := (hy 0 (by omega)).2 0 (by decide)
        have hspot : spot = none := by simpa [Addr.add] using World.cell?_spot hc1
        subst hspot
        have hbl : b < W.heap.size := by
          rcases Nat.lt_or_ge b W.heap.size with h | h
          · exact h
          · rw [Addr.add_lit] at hc1
            simp [World.cell?, Array.getElem?_eq_none h] at hc1
        refine Or.inr ⟨b, off, rfl, hbl, fun r hr => ?_⟩
        simp only [List.length_map, List.length_range] at hr
        have hgr : ((List.range len0).map y).getD r opZ = y r := by simp [List.getD, hr]
        rw [hgr]
        have f : ∀ j, j < 3 → W.cell? ⟨b, off + (r * 3 + j), none⟩ = (opL (y r))[j]? := fun j hj => by have := (hy r hr).2 j hj; rwa [Addr.add_lit] at this
        exact ⟨f 0 (by decide), f 1 (by decide), f 2 (by decide)⟩
    · intro o ho
      obtain ⟨r, hr, rfl⟩ := List.mem_map.1 ho
      exact (hy r (by simpa using hr)).1
end Go.Proofs.Ytfllomlighlejaa
end

section
namespace Go.Proofs.Ytfllomlighlejaa
open Go.ChangeShapes Go.WideShapes Go.ChangeAt Go.RowKit

theorem one_intM {H : Type} {enc : TypeId × Value → H} {P : Program} {W : World} {spare : Nat → Bool} {m : Nat} {t : TypeId} (ht : P.underlying t = some (.int .i64)) {xs : List (DataW H × List MemPlace)} {L : List Value} {i k : Nat} (hi : i < xs.length)
    (h : DataW.trod enc P W 0 spare true m t ((L.drop k).take 1) = xs[i]?) : ∃ n : Int, L[k]? = some (.int .i64 n) := by
  rw [List.getElem?_eq_getElem hi] at h
  obtain ⟨n, hn, _⟩ := DataW.trod_int ht h
  refine ⟨n, ?_⟩
  have := congrArg (·[0]?) hn
  simpa [List.getElem?_take, List.getElem?_drop] using this
theorem one_strM {H : Type} {enc : TypeId × Value → H} {P : Program} {W : World} {spare : Nat → Bool} {m : Nat} {t : TypeId} (ht : P.underlying t = some .string) {xs : List (DataW H × List MemPlace)} {L : List Value} {i k : Nat} (hi : i < xs.length)
    (h : DataW.trod enc P W 0 spare true m t ((L.drop k).take 1) = xs[i]?) : ∃ s : ByteArray, L[k]? = some (.string s) := by
  rw [List.getElem?_eq_getElem hi] at h
  obtain ⟨n, hn, _⟩ := DataW.trod_string ht h
  refine ⟨n, ?_⟩
  have := congrArg (·[0]?) hn
  simpa [List.getElem?_take, List.getElem?_drop] using this
set_option maxRecDepth 100000 in
theorem mark_of_trod {H : Type} {enc : TypeId × Value → H} {W : World} {v : Value} {d0 : DataW H} {p0 : List MemPlace} {base : Nat} (hv : Value.okWide Try.prog W .any base 42 v)
    (h0 : DataW.Trod enc Try.prog W 0 (fun _ => true) true 42 v d0 p0) : ∃ x : Mk, v = mkV x := by
  obtain ⟨cs, rfl, hs⟩ := okWide_struct Try.underlying42 hv
  obtain ⟨fuel, hf⟩ := h0
  obtain ⟨xs, n, _, _, _, hx, hall⟩ := DataW.trod_struct Try.underlying42 hf
  have hs' : cs.size = 3 := hs.trans (by kernel_rfl)
  have hx' : xs.length = 3 := hx
  have hl : cs.toList.length = 3 := by simpa using hs'
  have hc : Try.prog.cellsOf 3 = 1 := by kernel_rfl
  have hc2 : Try.prog.cellsOf 40 = 1 := by kernel_rfl
  have hc3 : Try.prog.cellsOf 9 = 1 := by kernel_rfl
  have g0 : DataW.trod enc Try.prog W 0 (fun _ => true) true n 9 ((cs.toList.drop 0).take (Try.prog.cellsOf 9)) = xs[0]? := hall 0 _ rfl
  have g1 : DataW.trod enc Try.prog W 0 (fun _ => true) true n 3 ((cs.toList.drop 1).take (Try.prog.cellsOf 3)) = xs[1]? := hall 1 _ rfl
  have g2 : DataW.trod enc Try.prog W 0 (fun _ => true) true n 40 ((cs.toList.drop 2).take (Try.prog.cellsOf 40)) = xs[2]? := hall 2 _ rfl
  rw [hc] at g1
  rw [hc2] at g2
  rw [hc3] at g0
  obtain ⟨s, e0⟩ := one_strM Try.underlying9 (by omega) g0
  obtain ⟨a, e1⟩ := one_intM Try.underlying3 (by omega) g1
  obtain ⟨c, e2⟩ := one_intM Try.underlying40 (by omega) g2
  refine ⟨⟨s, a, c⟩, ?_⟩
  unfold mkV
  dsimp only
  congr 1
  apply Array.ext'
  apply List.ext_getElem?
  intro i
  match i with
  | 0 => exact e0
  | 1 => exact e1
  | 2 => exact e2
  | i + 3 => rw [List.getElem?_eq_none (by omega)]; rfl
theorem okWide_arrM {P : Program} {w : World} {r : Reach} {base : Nat} {t e : TypeId} {n : Nat} {v : Value} (ht : P.underlying t = some (.array n e)) (h : Value.okWide P w r base t v) : ∃ cs, v = .agg cs ∧ cs.size = P.cellsOf t := by
  simp only [Value.okWide, ht] at h
  obtain ⟨cs, h1, h2, _⟩ := h
  exact ⟨cs, h1, h2⟩
end Go.Proofs.Ytfllomlighlejaa
end
