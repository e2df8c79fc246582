/- Layer 17: PastPlays' walk. · Layer 17: arguments: a script that came in, and a list of numbers, of whatever size. · PastPlays: for every input the law returns true and every argument reads afterwards as it read before; conditions: none. -/
import Derived.Test.YtdemfejladepjaaMg27
import Derived.Test.YtdemfejladepjaaMg30
import Derived.Test.YtdemfejladepjaaRows
import Derived.Test.YtdemfejladepjaaMg16
import Derived.SizedLaws
import Derived.LaidLaws
import Derived.Deep.DeepHandedRow
import Derived.Deep.Slices
import Derived.Deep.SlicePairs
import Derived.OpenShut
import Derived.Below
import Derived.ChangeOld
import Derived.ShutString

section
namespace Go.Proofs.Ytdemfejladepjaa
open Go.ChangeShapes Go.WideShapes Go.ChangeAt Go.RowKit
attribute [local go_sem] Oper.semAt_some

set_option maxRecDepth 100000 in
set_option maxHeartbeats 8000000 in
theorem PastPlaysT (f m m' : Int) (a : Option Addr) (c : Nat) (d : List Oq) (w : World) (ho : IsQ w a d) (hl : d.length ≤ 140737488355328) (hw : ∀ o ∈ d, o.w.size ≤ 281474976710656)
    (ht : (decide (m > 300) = true ∧ decide (300 < m) = true ∧ decide (m ≤ 4096) = true ∧ decide ((d.length : Int) > 50) = true ∧ decide (50 < (d.length : Int)) = true ∧ m' = 300) ∨ (m' = m ∧ (decide (m > 300) = false ∧ decide (300 < m) = false ∨ decide (m > 300) = true ∧ decide (300 < m) = true ∧ (decide (m ≤ 4096) = false ∨ decide (m ≤ 4096) = true ∧ decide ((d.length : Int) > 50) = false ∧ decide (50 < (d.length : Int)) = false)))) :
    Calls Try.prog 3 #[.int .i64 f, .int .i64 m, .slice a d.length c] w fun y Y => y = .returned (.bool true) ∧ Below w.heap.size w Y := by
  have HF := hide (fixed17_at w)
  have HP := hide fun (X : World) (hx : Below w.heap.size w X) => playsI_at f m' a c d X (ho.below hx (Nat.le_refl _)) hl hw
  have HQ := hide fun (X : World) (hx : Below w.heap.size w X) => playsQ_at f m' a c d X (ho.below hx (Nat.le_refl _)) hl hw
  clear ho hl hw
  rcases ht with ⟨t1, t2, t3, t4, t5, rfl⟩ | ⟨rfl, ⟨t1, t2⟩ | ⟨t1, t2, t3 | ⟨t3, t4, t5⟩⟩⟩
  all_goals
    go_enter Try.func3, Try.ntmps3
    go_wp2_with fail
    refine (unhide HF).mono ?_
    rintro y w1 ⟨rfl, x1⟩
    dsimp only
    have HC := hide (unhide HP w1 x1)
    have HX1 := hide x1
    clear HF HP x1
    go_wp2_with fail
    refine (unhide HC).mono ?_
    rintro y w2 ⟨rfl, x2⟩
    dsimp only
    have HX2 := hide ((unhide HX1).trans (x2.mono (unhide HX1).size))
    clear HC HX1 x2
    have HC := hide (unhide HQ w2 (unhide HX2))
    clear HQ
    go_wp2_with fail
    refine (unhide HC).mono ?_
    rintro y w3 ⟨rfl, x3⟩
    dsimp only
    have HX3 := hide ((unhide HX2).trans (x3.mono (unhide HX2).size))
    clear HC HX2 x3
    go_wp2_with fail
    exact bodyPost_ret (results_tmp rfl _ _ _) rfl ⟨rfl, unhide HX3⟩
theorem PastPlays_any {A B : Prop} (f m : Int) (a : Option Addr) (c : Nat) (d : List Oq) (w : World) (_ : A) (_ : B) (ho : IsQ w a d) (_ : d = [] ∨ ∃ p, a = some p) (hl : d.length * 32 ≤ 140737488355328) (hw : ∀ o ∈ d, o.w.size ≤ 281474976710656) :
    Calls Try.prog 3 #[.int .i64 f, .int .i64 m, .slice a d.length c] w fun y Y => y = .returned (.bool true) ∧ Below w.heap.size w Y := by
  by_cases h1 : m > 300
  · by_cases h2 : m ≤ 4096
    · by_cases h3 : (d.length : Int) > 50
      · exact PastPlaysT f m 300 a c d w ho (by omega) hw (.inl ⟨decide_eq_true h1, decide_eq_true h1, decide_eq_true h2, decide_eq_true h3, decide_eq_true h3, rfl⟩)
      · exact PastPlaysT f m m a c d w ho (by omega) hw (.inr ⟨rfl, .inr ⟨decide_eq_true h1, decide_eq_true h1, .inr ⟨decide_eq_true h2, decide_eq_false h3, decide_eq_false h3⟩⟩⟩)
    · exact PastPlaysT f m m a c d w ho (by omega) hw (.inr ⟨rfl, .inr ⟨decide_eq_true h1, decide_eq_true h1, .inl (decide_eq_false h2)⟩⟩)
  · exact PastPlaysT f m m a c d w ho (by omega) hw (.inr ⟨rfl, .inl ⟨decide_eq_false h1, decide_eq_false h1⟩⟩)
end Go.Proofs.Ytdemfejladepjaa
end

section
namespace Go.Proofs.Ytdemfejladepjaa
open Go.ChangeShapes Go.WideShapes Go.ChangeAt Go.RowKit

theorem ownC : ownKnob Try.prog.godebug = none := by kernel_rfl
theorem laidOut : laidOutB Try.prog = true := by kernel_rfl
noncomputable def laidWorld (os : Os) : World := World.holding Try.prog os ⟨#[], #[], []⟩
theorem one_intO {H : Type} {enc : TypeId × Value → H} {P : Program} {W : World} {spare : Nat → Bool} {m : Nat} {t : TypeId} (ht : P.underlying t = some (.int .i64)) {xs : List (DataW H × List MemPlace)} {L : List Value} {i k : Nat} (hi : i < xs.length)
    (h : DataW.trod enc P W 0 spare true m t ((L.drop k).take 1) = xs[i]?) : ∃ n : Int, L[k]? = some (.int .i64 n) := by
  rw [List.getElem?_eq_getElem hi] at h
  obtain ⟨n, hn, _⟩ := DataW.trod_int ht h
  refine ⟨n, ?_⟩
  have := congrArg (·[0]?) hn
  simpa [List.getElem?_take, List.getElem?_drop] using this
theorem one_strO {H : Type} {enc : TypeId × Value → H} {P : Program} {W : World} {spare : Nat → Bool} {m : Nat} {t : TypeId} (ht : P.underlying t = some .string) {xs : List (DataW H × List MemPlace)} {L : List Value} {i k : Nat} (hi : i < xs.length)
    (h : DataW.trod enc P W 0 spare true m t ((L.drop k).take 1) = xs[i]?) : ∃ s : ByteArray, L[k]? = some (.string s) ∧ (xs[i]'hi).1 = .lit (.string s.data.toList) := by
  rw [List.getElem?_eq_getElem hi] at h
  obtain ⟨n, hn, hx⟩ := DataW.trod_string ht h
  refine ⟨n, ?_, by rw [hx.1]⟩
  have := congrArg (·[0]?) hn
  simpa [List.getElem?_take, List.getElem?_drop] using this
theorem wE_atO {H : Type} {P : Program} : ∀ {ts : List TypeId} {ds : List (DataW H)} {j : Nat} {t : TypeId} {d : DataW H}, ts[j]? = some t → ds[j]? = some d → ∀ x ∈ d.weights P t, x ∈ DataW.weightsEach P ts ds
  | [], _, _, _, _, ht, _, _, _ => by simp at ht
  | _ :: _, [], _, _, _, _, hd, _, _ => by simp at hd
  | t0 :: ts, d0 :: ds, 0, t, d, ht, hd, x, hx => by
    simp only [List.getElem?_cons_zero, Option.some.injEq] at ht hd
    subst ht hd
    rw [DataW.weightsEach]
    exact List.mem_append_left _ hx
  | t0 :: ts, d0 :: ds, j + 1, t, d, ht, hd, x, hx => by
    simp only [List.getElem?_cons_succ] at ht hd
    rw [DataW.weightsEach]
    exact List.mem_append_right _ (wE_atO ht hd x hx)
theorem wA_atO {H : Type} {P : Program} {e : TypeId} : ∀ {l : List (DataW H)} {d : DataW H}, d ∈ l → ∀ x ∈ d.weights P e, x ∈ DataW.weightsAll P e l
  | [], _, h, _, _ => by simp at h
  | d0 :: r, d, h, x, hx => by
    rw [DataW.weightsAll]
    rcases List.mem_cons.1 h with rfl | h
    · exact List.mem_append_left _ hx
    · exact List.mem_append_right _ (wA_atO h x hx)
instance : Inhabited Oq := ⟨oqZ⟩
def oqL (q : Oq) : List Value := [.int .i64 q.k, .int .i64 q.n, .string q.w]
set_option maxRecDepth 100000 in
theorem op_cells {H : Type} {enc : TypeId × Value → H} {W : World} {cs : List Value} {fuel : Nat} {x : DataW H × List MemPlace}
    (hl : cs.length = 3) (hb : ∀ y ∈ x.1.weights Try.prog 48, y ≤ reachBytes) (hf : DataW.trod enc Try.prog W 0 (fun _ => true) true fuel 48 cs = some x) : ∃ q : Oq, cs = oqL q ∧ q.w.size ≤ 281474976710656 := by
  obtain ⟨xs, n, _, hxx, _, hx, hall⟩ := DataW.trod_struct Try.underlying48 hf
  have hx' : xs.length = 3 := hx
  have hc : Try.prog.cellsOf 3 = 1 := by kernel_rfl
  have hc2 : Try.prog.cellsOf 9 = 1 := by kernel_rfl
  have j0 : DataW.trod enc Try.prog W 0 (fun _ => true) true n 3 ((cs.drop 0).take (Try.prog.cellsOf 3)) = xs[0]? := hall 0 _ rfl
  have j1 : DataW.trod enc Try.prog W 0 (fun _ => true) true n 3 ((cs.drop 1).take (Try.prog.cellsOf 3)) = xs[1]? := hall 1 _ rfl
  have j2 : DataW.trod enc Try.prog W 0 (fun _ => true) true n 9 ((cs.drop 2).take (Try.prog.cellsOf 9)) = xs[2]? := hall 2 _ rfl
  rw [hc] at j0
  rw [hc] at j1
  rw [hc2] at j2
  obtain ⟨k, e0⟩ := one_intO Try.underlying3 (by omega) j0
  obtain ⟨m, e1⟩ := one_intO Try.underlying3 (by omega) j1
  obtain ⟨s, e2, es⟩ := one_strO Try.underlying9 (by omega) j2
  refine ⟨⟨k, m, s⟩, ?_, ?_⟩
  · unfold oqL
    apply List.ext_getElem?
    intro i
    match i with
    | 0 => exact e0
    | 1 => exact e1
    | 2 => exact e2
    | i + 3 => rw [List.getElem?_eq_none (by omega)]; rfl
  · have h1 : (xs.map fun x => x.1)[2]? = some (xs[2]'(by omega)).1 := by simp [List.getElem?_eq_getElem (show 2 < xs.length by omega)]
    have hr : reachBytes = 140737488351232 := rfl
    have := hb s.data.toList.length (by
      rw [hxx]
      simp only [DataW.weights, Try.underlying48]
      refine wE_atO (j := 2) (t := 9) rfl h1 _ ?_
      rw [es]
      simp [DataW.weights])
    have e9 : s.size = s.data.toList.length := by rw [Array.length_toList]; rfl
    show s.size ≤ _
    omega
set_option maxRecDepth 100000 in
/-- the list of operations -/
theorem scr_of_trod {H : Type} {enc : TypeId × Value → H} {W : World} {a0 : Option Addr} {len0 cap0 : Nat} {d0 : DataW H} {p0 : List MemPlace}
    (h0 : DataW.Trod enc Try.prog W 0 (fun _ => true) true 22 (Value.slice a0 len0 cap0) d0 p0)
    {ts : List TypeId} {ds : List (DataW H)} {j : Nat} (hsz : (DataW.weightsEach Try.prog ts ds).all (· ≤ reachBytes) = true) (ht : ts[j]? = some 22) (hd : ds[j]? = some d0) :
    ∃ q : List Oq, len0 = q.length ∧ IsQ W a0 q ∧ (q = [] ∨ ∃ p, a0 = some p) ∧ q.length * 32 ≤ 140737488355328 ∧ ∀ o ∈ q, o.w.size ≤ 281474976710656 := by
  have hall : ∀ y ∈ d0.weights Try.prog 22, y ≤ reachBytes := fun y hy => of_decide_eq_true (List.all_eq_true.1 hsz y (wE_atO ht hd y hy))
  obtain ⟨fuel, hf⟩ := h0
  rcases Go.Deep.open_slice Try.underlying22 hf with ⟨hcs, _⟩ | ⟨a, len, cap, m, n, D, Pl, hcs, _, hl, hm, hmm, hx, hrow⟩
  · simp [Value.cells] at hcs
    obtain ⟨rfl, rfl, rfl⟩ := hcs
    exact ⟨[], rfl, Or.inl rfl, Or.inl rfl, by simp, by simp⟩
  · simp [Value.cells] at hcs
    obtain ⟨rfl, rfl, rfl⟩ := hcs
    simp only [Prod.mk.injEq] at hx
    obtain ⟨rfl, _⟩ := hx
    have hs := sized_slice hsz ht hd Try.underlying22
    rw [show Try.prog.bytesOf 48 = 32 by kernel_rfl] at hs
    have hr : reachBytes = 140737488351232 := rfl
    simp only [List.length_map, List.length_range] at hs
    simp only [DataW.weights, Try.underlying22] at hall
    simp only [if_true] at hmm
    subst hmm
    have ce : Try.prog.cellsOf 48 = 3 := by kernel_rfl
    have each : ∀ r, r < len0 → ∃ y : Oq, (y.w.size ≤ 281474976710656) ∧ ∀ j, j < 3 → W.cell? (a.add (r * 3 + j)) = (oqL y)[j]? := by
      intro r hr
      obtain ⟨cs', h1, h2⟩ := hrow r (by omega)
      rw [ce] at h1
      obtain ⟨_, hlen, hcell⟩ := World.cells?_some h1
      have hbr : ∀ y ∈ (D r).weights Try.prog 48, y ≤ reachBytes := fun y hy => hall y (List.mem_cons_of_mem _ (List.mem_append_left _ (wA_atO (by simp; exact ⟨r, hr, rfl⟩) y hy)))
      obtain ⟨y, rfl, hby⟩ := op_cells hlen hbr h2
      refine ⟨y, hby, fun j hj => ?_⟩
      have e := hcell j (by omega)
      rw [Go.Deep.add_add] at e
      rw [e, List.getElem?_eq_getElem (by simpa [oqL] using hj)]
    obtain ⟨y, hy⟩ := Go.Deep.choose_lt each
    refine ⟨(List.range len0).map y, by simp, ?_, Or.inr ⟨_, rfl⟩, by simp; omega, ?_⟩
    · rcases Nat.eq_zero_or_pos len0 with h0 | h0
      · subst h0; exact Or.inl rfl
      · obtain ⟨b, off, spot⟩ := a
        have hc1 : W.cell? (Addr.add ⟨b, off, spot⟩ (0 * 3 + 0)) = some (.int .i64 (y 0).k) := (hy 0 (by omega)).2 0 (by decide)
        have hspot : spot = none := by simpa [Addr.add] using World.cell?_spot hc1
        subst hspot
        have hbl : b < W.heap.size := by
          rcases Nat.lt_or_ge b W.heap.size with h | h
          · exact h
          · rw [Addr.add_lit] at hc1
            simp [World.cell?, Array.getElem?_eq_none h] at hc1
        refine Or.inr ⟨b, off, rfl, hbl, fun r hr => ?_⟩
        simp only [List.length_map, List.length_range] at hr
        have hgr : ((List.range len0).map y).getD r oqZ = y r := by simp [List.getD, hr]
        rw [hgr]
        have f : ∀ j, j < 3 → W.cell? ⟨b, off + (r * 3 + j), none⟩ = (oqL (y r))[j]? := fun j hj => by have := (hy r hr).2 j hj; rwa [Addr.add_lit] at this
        exact ⟨f 0 (by decide), f 1 (by decide), f 2 (by decide)⟩
    · intro o ho
      obtain ⟨r, hr, rfl⟩ := List.mem_map.1 ho
      exact (hy r (by simpa using hr)).1
end Go.Proofs.Ytdemfejladepjaa
end

section
namespace Go.Proofs.Ytdemfejladepjaa
open Go.ChangeShapes Go.WideShapes Go.ChangeAt Go.RowKit
open Go.ChangeMaps (open_string shut_string)

set_option maxRecDepth 100000 in
theorem pastPlays_contract (H : Type) (enc : TypeId × Value → H) (W : World) (base : Nat) (args : Array Value) (ds gs : List (DataW H)) (before : List MemPlace)
    (hval : ∀ (j : Nat) t v, Try.f3.params[j]? = some t → args[j]? = some v → Value.okWide Try.prog W .any base t v)
    (hW : DataW.Whole enc Try.prog Try.f3.params.toList Rows.pastPlaysSpec.vars false W args.toList ds gs before) (hsz : (DataW.weightsEach Try.prog (Try.f3.params.toList ++ (OpenSpec.ofChange Rows.pastPlaysSpec).bare.plain.varTypes Try.prog) (ds ++ gs)).all (· ≤ reachBytes) = true) (_hL : laidMetH Try.prog Rows.pastPlaysRow.laid W) :
    Calls Try.prog 3 args W fun e W' => ∃ v, e = .returned v ∧ Rows.pastPlaysSpec.post enc Try.prog Try.f3 false true false false W args v W' := by
  have hW' := hW
  obtain ⟨p, q, hA0, hV, rfl, _, _⟩ := hW
  have hA : DataW.TrodAll enc Try.prog W 0 (fun _ => true) true Try.f3.params.toList args.toList ds p := hA0
  rw [Try.params3] at hA hval hsz
  obtain ⟨v0, vs0, d0, ds0, p0, q0, hargs, rfl, rfl, h0, r0⟩ := trodAll_cons hA
  obtain ⟨v1, vs1, d1, ds1, p1, q1, rfl, rfl, rfl, h1, r1⟩ := trodAll_cons r0
  obtain ⟨v2, vs2, d2, ds2, p2, q2, rfl, rfl, rfl, h2, r2⟩ := trodAll_cons r1
  obtain ⟨rfl, rfl, rfl⟩ := trodAll_nil r2
  obtain rfl : args = #[v0, v1, v2] := by cases args; simp_all
  obtain ⟨rfl, rfl⟩ := trodVars_none hV
  obtain ⟨x0, rfl, rfl, rfl, w0⟩ := open_int Try.underlying3 (hval 0 3 v0 rfl rfl) h0
  obtain ⟨x1, rfl, rfl, rfl, w1⟩ := open_int Try.underlying3 (hval 1 3 v1 rfl rfl) h1
  obtain ⟨a2, len2, cap2, rfl⟩ := okWide_slice Try.underlying22 (hval 2 22 v2 rfl rfl)
  have k2 := h2
  have lt2 : ∀ x ∈ p2, x.block < W.heap.size := by obtain ⟨m, hm⟩ := k2; exact DataW.trod_lt m _ _ _ hm
  obtain ⟨l2, rfl, w2, u2⟩ := scr_of_trod h2 hsz (j := 2) rfl rfl
  clear hA0
  refine (PastPlays_any x0 x1 a2 cap2 l2 W w0 w1 w2 u2.1 u2.2.1 u2.2.2).mono fun e W' ⟨he, bel⟩ => ?_
  subst he
  exact ⟨_, rfl, _, _, _, [], _, [], hW', trodAll_mk1 (shut_bool Try.underlying4 _), (trodAll_cons_mk (shut_int Try.underlying3 w0) (trodAll_cons_mk (shut_int Try.underlying3 w1) (trodAll_cons_mk (Below.trod laidOut (by kernel_rfl) (of_decide_eq_true (by kernel_rfl)) k2 bel lt2) trodAll_mk0))), rfl, bel.frame _, fun h => by cases h⟩

theorem pastPlays_met (os : Os) : laidMet Try.prog Rows.pastPlaysRow.laid ((laidWorld os).forCall (fun _ _ => 0) ⟨#[], #[.int .i64 0, .int .i64 0, .slice none 0 0], []⟩).memory :=
  laidMet_of_run' 8 (by kernel_rfl) (by kernel_rfl)
theorem pastPlays_reads (os : Os) {H : Type} (enc : TypeId × Value → H) : ∃ places, DataW.whole enc Try.prog ((laidWorld os).forCall (fun _ _ => 0) ⟨#[], #[.int .i64 0, .int .i64 0, .slice none 0 0], []⟩).memory Try.f3.params.toList Rows.pastPlaysSpec.vars false (#[.int .i64 0, .int .i64 0, .slice none 0 0] : Array Value).toList 8 = some ([.lit (.int .i64 0), .lit (.int .i64 0), .nil], [], places) :=
  ⟨[], by kernel_rfl⟩

set_option maxRecDepth 100000 in
theorem pastPlays_lifted (os : Os) (started : os.Started) (H : Type) (enc : TypeId × Value → H) (F : Stop.Interp) :
    ReturnsInHanded {} Try.checked os 3 .any ((OpenSpec.ofChange Rows.pastPlaysSpec).preRow enc Try.prog Try.f3 Rows.pastPlaysRow.domain false Rows.pastPlaysRow.laid) (((OpenSpec.ofChange Rows.pastPlaysSpec).at F).post enc Try.prog Try.f3 false true false false) := by
  obtain ⟨places, hx⟩ := pastPlays_reads os enc
  refine returnsInHanded_of_row (C := Try.checked) (s := OpenSpec.ofChange Rows.pastPlaysSpec) ownC started (by kernel_rfl) Try.func3
    (witness_row_at (enc := enc) (C := Try.checked) false (laidWorld os) #[.int .i64 0, .int .i64 0, .slice none 0 0] rfl (by kernel_rfl) (by kernel_rfl) (by kernel_rfl)
      (OpenSpec.preRow_of_cond 8 hx (by kernel_rfl) (fun k hk => by cases hk) (by kernel_rfl) (pastPlays_met os))) ?_
  intro W base args ds gs before hval hW _ _ hsz hL _ _
  exact pastPlays_contract H enc W base args ds gs before hval hW hsz hL

theorem pastPlays_said : Rows.PastPlaysSaid :=
  OpenClaim.holds_of_cond 3 Try.f3 rfl rfl rfl rfl rfl rfl rfl ⟨rfl, rfl, rfl, rfl, rfl⟩ rfl rfl rfl rfl rfl (by kernel_rfl) Try.func3 (by kernel_rfl)
    (of_decide_eq_true (by kernel_rfl)) (by unfold Func.isWrapper; first | (rw [if_pos (by decide +kernel)]; kernel_rfl) | (rw [if_neg (by decide +kernel)]; exact ⟨rfl, rfl⟩))
    (fun os started H enc _ F => by rw [OpenClaim.pre_eq_preRow]; exact pastPlays_lifted os started H enc F)

#print axioms pastPlays_said
end Go.Proofs.Ytdemfejladepjaa
end
