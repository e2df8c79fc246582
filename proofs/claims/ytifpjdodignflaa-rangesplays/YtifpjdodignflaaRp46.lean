/- Layer 16: a script of operations that came in. · RangesPlays: for every input the law returns true and every argument reads afterwards as it read before; conditions: none. -/
import Derived.Test.YtifpjdodignflaaRp45
import Derived.Test.YtifpjdodignflaaRp41
import Derived.Below
import Derived.ChangeOld
import Derived.ShutString

section
namespace Go.Proofs.Ytifpjdodignflaa
open Go.ChangeShapes Go.WideShapes Go.ChangeAt Go.RowKit

theorem partR_of {H : Type} {enc : TypeId × Value → H} {P : Program} {W : World} {spare : Nat → Bool} {m : Nat} {t : TypeId} {xs : List (DataW H × List MemPlace)} {c : List Value} {i : Nat} (hi : i < xs.length)
    (h : DataW.trod enc P W 0 spare true m t c = xs[i]?) : DataW.trod enc P W 0 spare true m t c = some (xs[i]'hi) := by
  rw [List.getElem?_eq_getElem hi] at h; exact h
set_option maxRecDepth 100000 in
theorem range_cells {H : Type} {enc : TypeId × Value → H} {W : World} {cs : List Value} {fuel : Nat} {x : DataW H × List MemPlace}
    (hl : cs.length = 5) (hf : DataW.trod enc Try.prog W 0 (fun _ => true) true fuel 37 cs = some x) : ∃ q : Rg, cs = rgL q := by
  obtain ⟨xs, n, _, _, _, hx, hall⟩ := DataW.trod_struct Try.underlying37 hf
  have hx' : xs.length = 5 := hx
  have hc : Try.prog.cellsOf 3 = 1 := by kernel_rfl
  have hc2 : Try.prog.cellsOf 35 = 1 := by kernel_rfl
  have hc3 : Try.prog.cellsOf 9 = 1 := by kernel_rfl
  have g0 : DataW.trod enc Try.prog W 0 (fun _ => true) true n 9 ((cs.drop 0).take (Try.prog.cellsOf 9)) = xs[0]? := hall 0 _ rfl
  have g1 : DataW.trod enc Try.prog W 0 (fun _ => true) true n 3 ((cs.drop 1).take (Try.prog.cellsOf 3)) = xs[1]? := hall 1 _ rfl
  have g2 : DataW.trod enc Try.prog W 0 (fun _ => true) true n 3 ((cs.drop 2).take (Try.prog.cellsOf 3)) = xs[2]? := hall 2 _ rfl
  have g3 : DataW.trod enc Try.prog W 0 (fun _ => true) true n 35 ((cs.drop 3).take (Try.prog.cellsOf 35)) = xs[3]? := hall 3 _ rfl
  have g4 : DataW.trod enc Try.prog W 0 (fun _ => true) true n 35 ((cs.drop 4).take (Try.prog.cellsOf 35)) = xs[4]? := hall 4 _ rfl
  rw [hc] at g1 g2
  rw [hc2] at g3 g4
  rw [hc3] at g0
  obtain ⟨s, e0⟩ := one_strR Try.underlying9 (by omega) g0
  obtain ⟨a, e1⟩ := one_intR Try.underlying3 (by omega) g1
  obtain ⟨b, e2⟩ := one_intR Try.underlying3 (by omega) g2
  obtain ⟨c, e3⟩ := one_intR Try.underlying35 (by omega) g3
  obtain ⟨e, e4⟩ := one_intR Try.underlying35 (by omega) g4
  refine ⟨⟨s, a, b, c, e⟩, ?_⟩
  apply List.ext_getElem?
  intro i
  match i with
  | 0 => exact e0
  | 1 => exact e1
  | 2 => exact e2
  | 3 => exact e3
  | 4 => exact e4
  | i + 5 => rw [List.getElem?_eq_none (by omega)]; rfl
set_option maxRecDepth 100000 in
theorem op7_cells {H : Type} {enc : TypeId × Value → H} {W : World} {cs : List Value} {fuel : Nat} {x : DataW H × List MemPlace}
    (hl : cs.length = 7) (hb : ∀ y ∈ x.1.weights Try.prog 41, y ≤ reachBytes) (hf : DataW.trod enc Try.prog W 0 (fun _ => true) true fuel 41 cs = some x) : ∃ q : Oc, OcI W q ∧ cs = ocL q := by
  obtain ⟨xs, n, _, hxx, _, hx, hall⟩ := DataW.trod_struct Try.underlying41 hf
  have hx' : xs.length = 3 := hx
  have hc : Try.prog.cellsOf 3 = 1 := by kernel_rfl
  have hc2 : Try.prog.cellsOf 37 = 5 := by kernel_rfl
  have hc1 : Try.prog.cellsOf 39 = 1 := by kernel_rfl
  have j0 : DataW.trod enc Try.prog W 0 (fun _ => true) true n 3 ((cs.drop 0).take (Try.prog.cellsOf 3)) = xs[0]? := hall 0 _ rfl
  have j1 : DataW.trod enc Try.prog W 0 (fun _ => true) true n 37 ((cs.drop 1).take (Try.prog.cellsOf 37)) = xs[1]? := hall 1 _ rfl
  have j2 : DataW.trod enc Try.prog W 0 (fun _ => true) true n 39 ((cs.drop 6).take (Try.prog.cellsOf 39)) = xs[2]? := hall 2 _ rfl
  rw [hc] at j0
  rw [hc2] at j1
  rw [hc1] at j2
  obtain ⟨k, e0⟩ := one_intR Try.underlying3 (by omega) j0
  obtain ⟨m, e1⟩ := range_cells (by simp; omega) (partR_of (by omega) j1)
  have j2' := partR_of (i := 2) (by omega) j2
  obtain ⟨a1, l1, c1, ed⟩ : ∃ a1 l1 c1, (cs.drop 6).take 1 = [Value.slice a1 l1 c1] := by
    rcases Go.Deep.open_slice Try.underlying39 j2' with ⟨hcs, _⟩ | ⟨a, len, cap, m, n, D, Pl, hcs, _⟩
    · exact ⟨_, _, _, hcs⟩
    · exact ⟨_, _, _, hcs⟩
  rw [ed] at j2'
  have hT : DataW.Trod enc Try.prog W 0 (fun _ => true) true 39 (Value.slice a1 l1 c1) (xs[2]'(by omega)).1 (xs[2]'(by omega)).2 := ⟨n, by simpa [Value.cells] using j2'⟩
  have hb2 : ∀ y ∈ (xs[2]'(by omega)).1.weights Try.prog 39, y ≤ reachBytes := fun y hy => by
    have h1 : (xs.map fun x => x.1)[2]? = some (xs[2]'(by omega)).1 := by simp [List.getElem?_eq_getElem (show 2 < xs.length by omega)]
    refine hb y ?_
    rw [hxx]
    simp only [DataW.weights, Try.underlying41]
    exact wE_atO (j := 2) rfl h1 y hy
  obtain ⟨q, rfl, h1, h2, h3, h4⟩ := ops_of_trod hT (ts := [39]) (ds := [(xs[2]'(by omega)).1]) (j := 0) (List.all_eq_true.2 fun y hy => decide_eq_true (hb2 y (by simpa [DataW.weightsEach] using hy))) rfl rfl
  refine ⟨⟨k, m, a1, c1, q⟩, ⟨h1, h2, h3, h4⟩, ?_⟩
  have g1 : ∀ j, j < 5 → cs[j + 1]? = (rgL m)[j]? := fun j hj => by
    have := congrArg (fun l => l[j]?) e1
    simpa [List.getElem?_take, List.getElem?_drop, hj] using this
  have g2 : cs[6]? = some (.slice a1 q.length c1) := by
    have := congrArg (fun l => l[0]?) ed
    simpa [List.getElem?_take, List.getElem?_drop] using this
  apply List.ext_getElem?
  intro i
  match i with
  | 0 => exact e0
  | 1 => exact g1 0 (by decide)
  | 2 => exact g1 1 (by decide)
  | 3 => exact g1 2 (by decide)
  | 4 => exact g1 3 (by decide)
  | 5 => exact g1 4 (by decide)
  | 6 => exact g2
  | i + 7 => rw [List.getElem?_eq_none (by omega)]; rfl
set_option maxRecDepth 100000 in
theorem ops7_of_trod {H : Type} {enc : TypeId × Value → H} {W : World} {a0 : Option Addr} {len0 cap0 : Nat} {d0 : DataW H} {p0 : List MemPlace}
    (h0 : DataW.Trod enc Try.prog W 0 (fun _ => true) true 22 (Value.slice a0 len0 cap0) d0 p0)
    {ts : List TypeId} {ds : List (DataW H)} {j : Nat} (hsz : (DataW.weightsEach Try.prog ts ds).all (· ≤ reachBytes) = true) (ht : ts[j]? = some 22) (hd : ds[j]? = some d0) :
    ∃ q : List Oc, len0 = q.length ∧ IsOc W a0 q ∧ q.length ≤ 4398046511104 := by
  have hall : ∀ y ∈ d0.weights Try.prog 22, y ≤ reachBytes := fun y hy => of_decide_eq_true (List.all_eq_true.1 hsz y (wE_atO ht hd y hy))
  obtain ⟨fuel, hf⟩ := h0
  rcases Go.Deep.open_slice Try.underlying22 hf with ⟨hcs, _⟩ | ⟨a, len, cap, m, n, D, Pl, hcs, _, hl, hm, hmm, hx, hrow⟩
  · simp [Value.cells] at hcs
    obtain ⟨rfl, rfl, rfl⟩ := hcs
    exact ⟨[], rfl, ⟨by simp, Or.inl rfl⟩, by simp⟩
  · simp [Value.cells] at hcs
    obtain ⟨rfl, rfl, rfl⟩ := hcs
    simp only [Prod.mk.injEq] at hx
    obtain ⟨rfl, _⟩ := hx
    have hs := sized_slice hsz ht hd Try.underlying22
    rw [show Try.prog.bytesOf 41 = 80 by kernel_rfl] at hs
    have hr : reachBytes = 140737488351232 := rfl
    simp only [List.length_map, List.length_range] at hs
    simp only [DataW.weights, Try.underlying22] at hall
    simp only [if_true] at hmm
    subst hmm
    have ce : Try.prog.cellsOf 41 = 7 := by kernel_rfl
    have each : ∀ r, r < len0 → ∃ y : Oc, OcI W y ∧ ∀ j, j < 7 → W.cell? (a.add (r * 7 + j)) = (ocL y)[j]? := by
      intro r hr
      obtain ⟨cs', h3, h2⟩ := hrow r (by omega)
      rw [ce] at h3
      obtain ⟨_, hlen, hcell⟩ := World.cells?_some h3
      have hbr : ∀ y ∈ (D r).weights Try.prog 41, y ≤ reachBytes := fun y hy => hall y (List.mem_cons_of_mem _ (List.mem_append_left _ (wA_atO (by simp; exact ⟨r, hr, rfl⟩) y hy)))
      obtain ⟨y, hy, rfl⟩ := op7_cells hlen (x := (D r, Pl r)) hbr h2
      refine ⟨y, hy, fun j hj => ?_⟩
      have e := hcell j (by omega)
      rw [Go.Deep.add_add] at e
      rw [e, List.getElem?_eq_getElem (by simpa [ocL] using hj)]
    obtain ⟨y, hy⟩ := Go.Deep.choose_lt each
    refine ⟨(List.range len0).map y, by simp, ⟨?_, ?_⟩, by simp; omega⟩
    · intro o ho
      obtain ⟨r, hr, rfl⟩ := List.mem_map.1 ho
      exact (hy r (by simpa using hr)).1
    · rcases Nat.eq_zero_or_pos len0 with h0 | h0
      · subst h0; exact Or.inl rfl
      · obtain ⟨b, off, spot⟩ := a
        have hc1 : W.cell? (Addr.add ⟨b, off, spot⟩ (0 * 7 + 0)) = some (.int .i64 (y 0).k) := (hy 0 (by omega)).2 0 (by decide)
        have hspot : spot = none := by simpa [Addr.add] using World.cell?_spot hc1
        subst hspot
        have hbl : b < W.heap.size := by
          rcases Nat.lt_or_ge b W.heap.size with h | h
          · exact h
          · rw [Addr.add_lit] at hc1
            simp [World.cell?, Array.getElem?_eq_none h] at hc1
        refine Or.inr ⟨b, off, rfl, hbl, fun r hr j hj => ?_⟩
        simp only [List.length_map, List.length_range] at hr
        have hgr : ((List.range len0).map y).getD r ocZ = y r := by simp [List.getD, hr]
        rw [hgr]
        have := (hy r hr).2 j hj
        rw [Addr.add_lit] at this
        rw [Nat.add_assoc]; exact this
end Go.Proofs.Ytifpjdodignflaa
end

section
namespace Go.Proofs.Ytifpjdodignflaa
open Go.ChangeShapes Go.WideShapes Go.ChangeAt Go.RowKit
open Go.ChangeMaps (open_string shut_string)

set_option maxRecDepth 100000 in
theorem rangesPlays_contract (H : Type) (enc : TypeId × Value → H) (W : World) (base : Nat) (args : Array Value) (ds gs : List (DataW H)) (before : List MemPlace)
    (hval : ∀ (j : Nat) t v, Try.f3.params[j]? = some t → args[j]? = some v → Value.okWide Try.prog W .any base t v)
    (hW : DataW.Whole enc Try.prog Try.f3.params.toList Rows.rangesPlaysSpec.vars false W args.toList ds gs before) (hsz : (DataW.weightsEach Try.prog (Try.f3.params.toList ++ (OpenSpec.ofChange Rows.rangesPlaysSpec).bare.plain.varTypes Try.prog) (ds ++ gs)).all (· ≤ reachBytes) = true) (_hL : laidMetH Try.prog Rows.rangesPlaysRow.laid W) :
    Calls Try.prog 3 args W fun e W' => ∃ v, e = .returned v ∧ Rows.rangesPlaysSpec.post enc Try.prog Try.f3 false true false false W args v W' := by
  have hW' := hW
  obtain ⟨p, q, hA0, hV, rfl, _, _⟩ := hW
  have hA : DataW.TrodAll enc Try.prog W 0 (fun _ => true) true Try.f3.params.toList args.toList ds p := hA0
  rw [Try.params3] at hA hval hsz
  obtain ⟨v0, vs0, d0, ds0, p0, q0, hargs, rfl, rfl, h0, r0⟩ := trodAll_cons hA
  obtain ⟨v1, vs1, d1, ds1, p1, q1, rfl, rfl, rfl, h1, r1⟩ := trodAll_cons r0
  obtain ⟨rfl, rfl, rfl⟩ := trodAll_nil r1
  obtain rfl : args = #[v0, v1] := by cases args; simp_all
  obtain ⟨rfl, rfl⟩ := trodVars_none hV
  obtain ⟨x0, rfl, rfl, rfl, w0⟩ := open_int Try.underlying3 (hval 0 3 v0 rfl rfl) h0
  obtain ⟨a1, len1, cap1, rfl⟩ := okWide_slice Try.underlying22 (hval 1 22 v1 rfl rfl)
  have k1 := h1
  have lt1 : ∀ x ∈ p1, x.block < W.heap.size := by obtain ⟨m, hm⟩ := k1; exact DataW.trod_lt m _ _ _ hm
  obtain ⟨l1, rfl, w1, u1⟩ := ops7_of_trod h1 hsz (j := 1) rfl rfl
  clear hA0
  refine (RangesPlays_any x0 a1 cap1 l1 W w0 w1 u1).mono fun e W' ⟨he, bel⟩ => ?_
  subst he
  exact ⟨_, rfl, _, _, _, [], _, [], hW', trodAll_mk1 (shut_bool Try.underlying4 _), (trodAll_cons_mk (shut_int Try.underlying3 w0) (trodAll_cons_mk (Below.trod laidOut (by kernel_rfl) (of_decide_eq_true (by kernel_rfl)) k1 bel lt1) trodAll_mk0)), rfl, bel.frame _, fun h => by cases h⟩

theorem rangesPlays_met (os : Os) : laidMet Try.prog Rows.rangesPlaysRow.laid ((laidWorld os).forCall (fun _ _ => 0) ⟨#[], #[.int .i64 0, .slice none 0 0], []⟩).memory :=
  laidMet_of_run' 8 (by kernel_rfl) (by kernel_rfl)
theorem rangesPlays_reads (os : Os) {H : Type} (enc : TypeId × Value → H) : ∃ places, DataW.whole enc Try.prog ((laidWorld os).forCall (fun _ _ => 0) ⟨#[], #[.int .i64 0, .slice none 0 0], []⟩).memory Try.f3.params.toList Rows.rangesPlaysSpec.vars false (#[.int .i64 0, .slice none 0 0] : Array Value).toList 8 = some ([.lit (.int .i64 0), .nil], [], places) :=
  ⟨[], by kernel_rfl⟩

set_option maxRecDepth 100000 in
theorem rangesPlays_lifted (os : Os) (started : os.Started) (H : Type) (enc : TypeId × Value → H) (F : Stop.Interp) :
    ReturnsInHanded {} Try.checked os 3 .any ((OpenSpec.ofChange Rows.rangesPlaysSpec).preRow enc Try.prog Try.f3 Rows.rangesPlaysRow.domain false Rows.rangesPlaysRow.laid) (((OpenSpec.ofChange Rows.rangesPlaysSpec).at F).post enc Try.prog Try.f3 false true false false) := by
  obtain ⟨places, hx⟩ := rangesPlays_reads os enc
  refine returnsInHanded_of_row (C := Try.checked) (s := OpenSpec.ofChange Rows.rangesPlaysSpec) ownC started (by kernel_rfl) Try.func3
    (witness_row_at (enc := enc) (C := Try.checked) false (laidWorld os) #[.int .i64 0, .slice none 0 0] rfl (by kernel_rfl) (by kernel_rfl) (by kernel_rfl)
      (OpenSpec.preRow_of_cond 8 hx (by kernel_rfl) (fun k hk => by cases hk) (by kernel_rfl) (rangesPlays_met os))) ?_
  intro W base args ds gs before hval hW _ _ hsz hL _ _
  exact rangesPlays_contract H enc W base args ds gs before hval hW hsz hL

theorem rangesPlays_said : Rows.RangesPlaysSaid :=
  OpenClaim.holds_of_cond 3 Try.f3 rfl rfl rfl rfl rfl rfl rfl ⟨rfl, rfl, rfl, rfl, rfl⟩ rfl rfl rfl rfl rfl (by kernel_rfl) Try.func3 (by kernel_rfl)
    (of_decide_eq_true (by kernel_rfl)) (by unfold Func.isWrapper; first | (rw [if_pos (by decide +kernel)]; kernel_rfl) | (rw [if_neg (by decide +kernel)]; exact ⟨rfl, rfl⟩))
    (fun os started H enc _ F => by rw [OpenClaim.pre_eq_preRow]; exact rangesPlays_lifted os started H enc F)

#print axioms rangesPlays_said
end Go.Proofs.Ytifpjdodignflaa
end
