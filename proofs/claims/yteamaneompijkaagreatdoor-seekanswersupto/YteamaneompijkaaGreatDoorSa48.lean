/- Layer 5: what the list of package-level variables gives: the table of classes and utf8's two tables; bytealg's limit holds some number; a world for the witness. · SeekAnswers: for every input the law returns true and every argument reads afterwards as it read before; conditions: the table of classes holds at the call what the program's text lays (the card ties it to that text); the arguments hold together at most 1048576 values and letters. -/
import Derived.Test.YteamaneompijkaaGreatDoorSa39
import Derived.Test.YteamaneompijkaaGreatDoorSa23
import Derived.Lib.LaidU8T
import Derived.Shelf.Vars
import Derived.Test.YteamaneompijkaaGreatDoorSa47
import Derived.Test.YteamaneompijkaaGreatDoorSa45
import Derived.Below
import Derived.ChangeOld
import Derived.ShutString
namespace Go.Proofs.YteamaneompijkaaGreatDoor
open Go.ChangeShapes Go.WideShapes Go.ChangeAt Go.RowKit
set_option maxRecDepth 100000
set_option maxHeartbeats 8000000
section
def renW : Go.Shelf.Ren := ⟨fun n => n, fun | 5 => 5 | 119 => 227 | 138 => 229 | 139 => 230 | n => n, fun | 3 => 1 | 4 => 2 | n => n⟩
theorem first_eq : (Rows.laid_unicode_utf8_first : DataW Unit) = Lib.firstData := by kernel_rfl
theorem accept_eq : (Rows.laid_unicode_utf8_acceptRanges : DataW Unit) = Lib.acceptData := by kernel_rfl
theorem typesW : U8Types Tryz.prog renW := ⟨Tryz.underlying5, Tryz.underlying227, Tryz.underlying229, Tryz.underlying230⟩
theorem extraW : U8Extra Tryz.prog renW := ⟨by kernel_rfl, by kernel_rfl, by kernel_rfl, by kernel_rfl, by kernel_rfl, by kernel_rfl, by kernel_rfl⟩
theorem wt_of {W : World} (h : laidMetH Tryz.prog [("galley/octet.classes", Rows.laid_galley_octet_classes), ("unicode/utf8.acceptRanges", Rows.laid_unicode_utf8_acceptRanges), ("unicode/utf8.first", Rows.laid_unicode_utf8_first)] W) (hs : W.ShapedOpen Tryz.prog) : Wt W := by
  have h : laidMet Tryz.prog [("galley/octet.classes", Rows.laid_galley_octet_classes), ("unicode/utf8.acceptRanges", Rows.laid_unicode_utf8_acceptRanges), ("unicode/utf8.first", Rows.laid_unicode_utf8_first)] W := h
  have hf := Lib.laidMet.reads h (n := "unicode/utf8.first") (d := Rows.laid_unicode_utf8_first) (by simp)
  have ha := Lib.laidMet.reads h (n := "unicode/utf8.acceptRanges") (d := Rows.laid_unicode_utf8_acceptRanges) (by simp)
  rw [first_eq] at hf
  rw [accept_eq] at ha
  have hu := utf8Tabs_of_readsT typesW extraW hf ha
  have hm : ∃ m, W.cell? ⟨3, 0, none⟩ = some (.int .i64 m) :=
    cell_of_shapedOpen_int (zero := #[.int .i64 0]) (t := 3) hs (of_decide_eq_true (by kernel_rfl)) (by kernel_rfl) rfl (by kernel_rfl) (by kernel_rfl) Tryz.underlying3
  rw [laid_eq] at h
  have t := Lib.tabIs_of_head gTab gTabType Tryz.underlying206 Tryz.underlying5 cellsByte cellsTab h
  have hT : Tab W := by
    intro b h0 h1
    have hl : tab.length = 245 := by simp [tab]
    have := t.cell gTab b.toNat (by rw [hl]; omega)
    rw [this]
    have hb : b.toNat < 245 := by omega
    have e : tab.getD b.toNat 0 = cls b := by
      simp [tab, List.getD, hb, Int.toNat_of_nonneg h0]
    rw [e]
  have hms : 3 < W.heap.size := by
    obtain ⟨m, h2⟩ := hm
    rcases Nat.lt_or_ge 3 W.heap.size with e | e
    · exact e
    · simp [World.cell?, Array.getElem?_eq_none e] at h2
  have hts := hT.size
  exact ⟨hT, hu, hm, by omega⟩
def tabF : List Int := (List.range 256).map fun (i : Nat) => ((Lib.firstT i : Nat) : Int)
def tabA : List Int := (List.range 16).flatMap fun (i : Nat) => [((Lib.accLo i : Nat) : Int), ((Lib.accHi i : Nat) : Int)]
noncomputable def laidWorldW (os : Os) : World :=
  { World.holding Tryz.prog os ⟨#[], #[], []⟩ with heap := ((((World.holding Tryz.prog os ⟨#[], #[], []⟩).heap.modify 0 fun
      | .cells _ t frozen => .cells (tab.map (Value.int .u8)).toArray t frozen
      | o => o).modify 1 fun
      | .cells _ t frozen => .cells (tabF.map (Value.int .u8)).toArray t frozen
      | o => o).modify 2 fun
      | .cells _ t frozen => .cells (tabA.map (Value.int .u8)).toArray t frozen
      | o => o) }
end
section
open Go.ChangeMaps (open_string shut_string)
theorem seekAnswers_contract (H : Type) (enc : TypeId × Value → H) (W : World) (base : Nat) (args : Array Value) (ds gs : List (DataW H)) (before : List MemPlace)
    (hval : ∀ (j : Nat) t v, Tryz.f3.params[j]? = some t → args[j]? = some v → Value.okWide Tryz.prog W .any base t v)
    (hW : DataW.Whole enc Tryz.prog Tryz.f3.params.toList Rows.seekAnswersSpec.vars false W args.toList ds gs before) (hsz : (DataW.weightsEach Tryz.prog (Tryz.f3.params.toList ++ (Rows.OpenSpec.upto Rows.seekAnswersSpec).bare.plain.varTypes Tryz.prog) (ds ++ gs)).all (· ≤ reachBytes) = true) (hk : Rows.uptoSmall H (ds ++ gs) = true) (hL : laidMetH Tryz.prog Rows.seekAnswersRow.laid W) (hsh : W.ShapedOpen Tryz.prog) :
    Calls Tryz.prog 3 args W fun e W' => ∃ v, e = .returned v ∧ Rows.seekAnswersSpec.post enc Tryz.prog Tryz.f3 false true false false W args v W' := by
  have hW' := hW
  obtain ⟨p, q, hA0, hV, rfl, _, _⟩ := hW
  have hA : DataW.TrodAll enc Tryz.prog W 0 (fun _ => true) true Tryz.f3.params.toList args.toList ds p := hA0
  rw [Tryz.params3] at hA hval hsz
  obtain ⟨v0, vs0, d0, ds0, p0, q0, hargs, rfl, rfl, h0, r0⟩ := trodAll_cons hA
  obtain ⟨v1, vs1, d1, ds1, p1, q1, rfl, rfl, rfl, h1, r1⟩ := trodAll_cons r0
  obtain ⟨rfl, rfl, rfl⟩ := trodAll_nil r1
  obtain rfl : args = #[v0, v1] := by cases args; simp_all
  obtain ⟨rfl, rfl⟩ := trodVars_none hV
  obtain ⟨a0, len0, cap0, rfl⟩ := okWide_slice Tryz.underlying22 (hval 0 22 v0 rfl rfl)
  have k0 := h0
  have lt0 : ∀ x ∈ p0, x.block < W.heap.size := by obtain ⟨m, hm⟩ := k0; exact DataW.trod_lt m _ _ _ hm
  obtain ⟨l0, rfl, w0, u0⟩ := nrows_of_trod h0 hk (j := 0) rfl
  have k1 := h1
  have lt1 : ∀ x ∈ p1, x.block < W.heap.size := by obtain ⟨m, hm⟩ := k1; exact DataW.trod_lt m _ _ _ hm
  obtain ⟨x1_0, x1_1, x1_2, x1_3, x1_4, x1_5, rfl, w1⟩ := ask10_of_trod (hval 1 28 v1 rfl rfl) h1
  clear hA0
  refine (SeekAnswers_any a0 cap0 l0 x1_0 x1_1 x1_2 x1_3 x1_4 x1_5 W w0 u0 w1 (wt_of hL hsh)).mono fun e W' ⟨he, bel⟩ => ?_
  subst he
  exact ⟨_, rfl, _, _, _, [], _, [], hW', trodAll_mk1 (shut_bool Tryz.underlying4 _), (trodAll_cons_mk (Below.trod laidOut (by kernel_rfl) (of_decide_eq_true (by kernel_rfl)) k0 bel lt0) (trodAll_cons_mk (Below.trod laidOut (by kernel_rfl) (of_decide_eq_true (by kernel_rfl)) k1 bel lt1) trodAll_mk0)), rfl, bel.frame _, fun h => by cases h⟩
theorem seekAnswers_met (os : Os) : laidMet Tryz.prog Rows.seekAnswersRow.laid ((laidWorldW os).forCall (fun _ _ => 0) ⟨#[], #[.slice none 0 0, .agg #[.int .i64 0, .int .i64 0, .int .i64 0, .int .i64 0, .int .i64 0, .int .i64 0]], []⟩).memory :=
  laidMet_of_run' 8 (by kernel_rfl) (by kernel_rfl)
theorem seekAnswers_reads (os : Os) {H : Type} (enc : TypeId × Value → H) : ∃ places, DataW.whole enc Tryz.prog ((laidWorldW os).forCall (fun _ _ => 0) ⟨#[], #[.slice none 0 0, .agg #[.int .i64 0, .int .i64 0, .int .i64 0, .int .i64 0, .int .i64 0, .int .i64 0]], []⟩).memory Tryz.f3.params.toList Rows.seekAnswersSpec.vars false (#[.slice none 0 0, .agg #[.int .i64 0, .int .i64 0, .int .i64 0, .int .i64 0, .int .i64 0, .int .i64 0]] : Array Value).toList 8 = some ([.nil, .agg [.lit (.int .i64 0), .agg [.lit (.int .i64 0), .lit (.int .i64 0)], .lit (.int .i64 0), .lit (.int .i64 0), .lit (.int .i64 0)]], [], places) :=
  ⟨[], by kernel_rfl⟩
theorem seekAnswers_lifted (os : Os) (started : os.Started) (H : Type) (enc : TypeId × Value → H) (F : Stop.Interp) :
    ReturnsInHanded {} Tryz.checked os 3 .any ((Rows.OpenSpec.upto Rows.seekAnswersSpec).preRow enc Tryz.prog Tryz.f3 Rows.seekAnswersUptoRow.domain false Rows.seekAnswersUptoRow.laid) (((Rows.OpenSpec.upto Rows.seekAnswersSpec).at F).post enc Tryz.prog Tryz.f3 false true false false) := by
  obtain ⟨places, hx⟩ := seekAnswers_reads os enc
  refine returnsInHanded_of_row (C := Tryz.checked) (s := Rows.OpenSpec.upto Rows.seekAnswersSpec) ownC started (by kernel_rfl) Tryz.func3
    (witness_row_at (enc := enc) (C := Tryz.checked) false (laidWorldW os) #[.slice none 0 0, .agg #[.int .i64 0, .int .i64 0, .int .i64 0, .int .i64 0, .int .i64 0, .int .i64 0]] rfl (by kernel_rfl) (by kernel_rfl) (by kernel_rfl)
      (OpenSpec.preRow_of_cond 8 hx (by kernel_rfl) (fun k hk => by cases hk; kernel_rfl) (by kernel_rfl) (seekAnswers_met os))) ?_
  intro W base args ds gs before hval hW _ hcond hsz hL hsh _
  exact seekAnswers_contract H enc W base args ds gs before hval hW hsz (hcond _ rfl) hL hsh
theorem seekAnswers_said : Rows.SeekAnswersUptoSaid :=
  OpenClaim.holds_of_cond 3 Tryz.f3 rfl rfl rfl rfl rfl rfl rfl ⟨rfl, rfl, rfl, rfl, rfl⟩ rfl rfl rfl rfl rfl (by kernel_rfl) Tryz.func3 (by kernel_rfl)
    (of_decide_eq_true (by kernel_rfl)) (by unfold Func.isWrapper; first | (rw [if_pos (by decide +kernel)]; kernel_rfl) | (rw [if_neg (by decide +kernel)]; exact ⟨rfl, rfl⟩))
    (fun os started H enc _ F => by rw [OpenClaim.pre_eq_preRow]; exact seekAnswers_lifted os started H enc F)
theorem seekAnswers_plain (f : FuncId) (fn : Func) (hf : Tryz.pinned.checked.prog.funcNamed "galley/galleylaw10.SeekAnswers" = some f) (hfn : Tryz.pinned.checked.prog.funcs[f]? = some fn) :
    true = Tryz.pinned.checked.prog.looks [] ∧ ∀ (j : Nat) t, fn.params[j]? = some t → Tryz.pinned.checked.prog.wantsStandIn t = false := by
  obtain rfl : f = 3 := Option.some.inj ((show Tryz.prog.funcNamed "galley/galleylaw10.SeekAnswers" = some 3 by kernel_rfl).symm.trans hf) |>.symm
  obtain rfl : fn = Tryz.f3 := (Option.some.inj (Tryz.func3.symm.trans hfn)).symm
  refine ⟨by kernel_rfl, fun j t ht => ?_⟩
  rw [Tryz.params3] at ht
  have hm := Array.mem_of_getElem? ht
  simp only [List.mem_toArray, List.mem_cons, List.not_mem_nil, or_false] at hm
  rcases hm with rfl | rfl
  · exact (show Tryz.prog.wantsStandIn 22 = false by kernel_rfl)
  · exact (show Tryz.prog.wantsStandIn 28 = false by kernel_rfl)
theorem seekAnswers_card : Rows.SeekAnswersUptoCardSaid :=
  Claim7.holds_tied_plain_at .later [] _ _ _ _ seekAnswers_said (fun _ h => by cases h) (by kernel_rfl) (fun _ h => by cases h) seekAnswersUpto_row_tie rfl ⟨rfl, rfl⟩ (by kernel_rfl) rfl seekAnswers_plain (by kernel_rfl)
#print axioms seekAnswers_card
end
end Go.Proofs.YteamaneompijkaaGreatDoor
