/- RopeNil's walk. · RopeNil: for every input the law returns true and every argument reads afterwards as it read before; conditions: the table of classes holds at the call what the program's text lays (the card ties it to that text). -/
import Derived.Test.YthkdnmekfldloaaDoorRpC
import Derived.Test.YthkdnmekfldloaaDoorLayW
import Derived.Test.YthkdnmekfldloaaDoorLay
import Derived.Below
import Derived.ChangeOld
import Derived.ShutString

section
namespace Go.Proofs.YthkdnmekfldloaaDoor
open Go.ChangeShapes Go.WideShapes Go.ChangeAt Go.RowKit
attribute [local go_sem] Oper.semAt_some

theorem own_lit0 (w : World) : Own (w.alloc (.cells #[] 5)) w.heap.size (.slice (some ⟨w.heap.size, 0, none⟩) 0 0) [] :=
  ⟨rfl, Or.inr ⟨w.heap.size, 0, #[], rfl, Nat.le_refl _, World.alloc_heap_new w _, Nat.le_refl _, Nat.zero_le _, rfl, rfl⟩⟩
/-- a copy, and New of it, however long -/
theorem copyNew (w : World) (a0 : Option Addr) (cap : Nat) (l : List Int) (hB : IsN w a0 cap l) :
    ∃ a' c' w', (Builtin.append_ #[22, 22] 22 #[.slice (some ⟨w.heap.size, 0, none⟩) 0 0, .slice a0 l.length cap]).run Tryd.prog (w.alloc (.cells #[] 5)) = .ok (.slice a' l.length c') w' ∧ Below w.heap.size w w' ∧
      (Wt w' → Calls Tryd.prog 8 #[.slice a' l.length c'] w' fun y X' => ∃ p e, y = .returned (.tuple #[.pointer p, .int .i64 e]) ∧ (p = none ∨ ∃ g, p = some ⟨g, 0, none⟩) ∧ Below w'.heap.size w' X') := by
  have b0 : Below w.heap.size w (w.alloc (.cells #[] 5)) := (Below.refl _ _).alloc (Nat.le_refl _) _
  by_cases hl : l.length ≤ 268435456
  · obtain ⟨v', W', h1, h2, h3⟩ := appL 22 (own_lit0 w) b0.size (hB.1.below b0 (Nat.le_refl _)) (by simpa using hl)
    rw [List.nil_append] at h2
    obtain ⟨a', c', rfl, hN⟩ := own_isN h2 hB.1.2.2.2 (by omega)
    refine ⟨a', c', W', h1, b0.trans h3, fun hW => ?_⟩
    refine (New9_at a' c' l W' hN hl hW).mono ?_
    rintro y X ⟨g, o, rfl, _, _, _, _, x⟩
    exact ⟨_, _, rfl, Or.inr ⟨g, rfl⟩, x⟩
  · obtain ⟨a', c', W', h1, _, _, h4⟩ := run_copy w a0 cap l 22 hB.1
    refine ⟨a', c', W', h1, h4, fun _ => ?_⟩
    refine (NewLong9_at a' l.length c' W' (by omega)).mono ?_
    rintro y X ⟨rfl, rfl⟩
    exact ⟨_, _, rfl, Or.inl rfl, Below.refl _ _⟩
theorem joinNil (p : Option Addr) (hp : p = none ∨ ∃ g, p = some ⟨g, 0, none⟩) (w : World) : Calls Tryd.prog 19 #[.pointer p, .pointer none] w fun y w' => y = .returned (.tuple #[.pointer none, .int .i64 1]) ∧ w' = w := by
  rcases hp with rfl | ⟨g, rfl⟩
  · exact RoJoinNA_at none w
  · exact RoJoinNB_at g w
set_option maxRecDepth 100000 in
set_option maxHeartbeats 4000000 in
theorem rn1_at (w : World) : Calls Tryd.prog 25 #[weV (ofL [])] w fun y w' => y = .returned (.bool true) ∧ Below w.heap.size w w' := by
  rw [zero_we9]
  have b0 := (Below.refl w.heap.size w).alloc (Nat.le_refl _) (.cells #[.int .i64 0, .int .i64 0, .int .i64 0, .int .i64 0, .string ⟨#[]⟩, .string ⟨#[]⟩] 47)
  have g0 := push_get w (.cells #[.int .i64 0, .int .i64 0, .int .i64 0, .int .i64 0, .string ⟨#[]⟩, .string ⟨#[]⟩] 47)
  obtain ⟨c0, c1, c2, c3, c4, c5, _⟩ := cells6 g0
  have HB := hide b0
  clear b0 g0
  go_enter Tryd.func25, Tryd.ntmps25
  go_wp2_with fail
  go_ret
  exact ⟨rfl, unhide HB⟩
set_option maxRecDepth 100000 in
set_option maxHeartbeats 4000000 in
theorem rn2_at (w : World) : Calls Tryd.prog 26 #[weV (ofL [])] w fun y w' => y = .returned (.bool false) ∧ Below w.heap.size w w' := by
  rw [zero_we9]
  have b0 := (Below.refl w.heap.size w).alloc (Nat.le_refl _) (.cells #[.int .i64 0, .int .i64 0, .int .i64 0, .int .i64 0, .string ⟨#[]⟩, .string ⟨#[]⟩] 47)
  have g0 := push_get w (.cells #[.int .i64 0, .int .i64 0, .int .i64 0, .int .i64 0, .string ⟨#[]⟩, .string ⟨#[]⟩] 47)
  obtain ⟨c0, c1, c2, c3, c4, c5, _⟩ := cells6 g0
  have HB := hide b0
  clear b0 g0
  go_enter Tryd.func26, Tryd.ntmps26
  go_wp2_with fail
  go_ret
  exact ⟨rfl, unhide HB⟩

set_option maxRecDepth 100000 in
set_option maxHeartbeats 8000000 in
theorem RopeNil_any (lo hi : Int) (a0 : Option Addr) (cap : Nat) (l : List Int) (w : World) (_hk : (Lit.int .i64 lo).wf = true) (_hk2 : (Lit.int .i64 hi).wf = true) (hB : IsN w a0 cap l) (hW : Wt w) :
    Calls Tryd.prog 5 #[.int .i64 lo, .int .i64 hi, .slice a0 l.length cap] w fun e w' => e = .returned (.bool true) ∧ Below w.heap.size w w' := by
  clear _hk _hk2
  refine (callsIn_wide (n := 4)).1 ?_
  refine callsIn_of_wp_marks Tryd.func5 rfl trivial ?_ rfl
  simp only [Tryd.ntmps5, List.size_toArray, List.length_cons, List.length_nil, Nat.reduceAdd, Nat.reduceSub, Array.replicate_succ, Array.replicate_zero, List.push_toArray, List.append_toArray, List.nil_append, List.cons_append]
  refine wpIn_wide.2 ?_
  have HW := hide fun (X : World) (hx : Below w.heap.size w X) => hW.below hx
  have HB := hide fun (X : World) (hx : Below w.heap.size w X) => hB.below hx (Nat.le_refl _)
  clear hW hB
  have x0 := (Below.refl w.heap.size w).alloc (Nat.le_refl _) (.cells #[.bool false] 4)
  have k0 := Cb.new w 4 (.bool false)
  have z0 : (w.alloc (.cells #[.bool false] 4)).heap.size = w.heap.size + 1 := World.size_alloc ..
  go_upto_region 1 with fail
  generalize w.alloc (.cells #[.bool false] 4) = w0 at *
  have HWk := hide (wakes9_at w0 (unhide HW w0 x0))
  generalize hn : w.heap.size = n at *
  go_wp2_with fail
  refine (unhide HWk).mono ?_
  rintro y w1 ⟨rfl, x1⟩
  dsimp only
  have X1 := x0.trans (x1.mono (by omega))
  have k1 := k0.on x1
  obtain ⟨a2, c2, w2, r2, x2, H2⟩ := copyNew w1 a0 cap l (unhide HB w1 X1)
  have R2 := hide r2
  have X2 := X1.trans (x2.mono (by have := X1.size; omega))
  have HN := hide (H2 (unhide HW w2 X2))
  have k2 := k1.on x2
  clear r2 H2 HWk x0 x1 k0 k1 z0 X1 x2
  go_wp2_with (at_builtin; refine wpList_append_known rfl _ _ 22 22 rfl _ _ rfl rfl _ _ (unhide R2) ?_)
  refine (unhide HN).mono ?_
  rintro y w3 ⟨p, e3, rfl, hp, x3⟩
  dsimp only
  have X3 := X2.trans (x3.mono (by have := X2.size; omega))
  have k3 := k2.on x3
  have HP := hide hp
  have HBf := hide (BeforeN9_at lo w3)
  rw [show weV zeroWe = .agg #[.int .i64 0, .int .i64 0, .int .i64 0, .int .i64 0, .string ⟨#[]⟩, .string ⟨#[]⟩] from rfl] at HBf
  clear hp x3 k2 X2 HN R2
  go_wp2_with fail
  refine (unhide HBf).mono ?_
  rintro y w4 ⟨rfl, x4⟩
  dsimp only
  have X4 := X3.trans (x4.mono (by have := X3.size; omega))
  have k4 := k3.on x4
  clear HBf x4 X3 k3
  go_upto_region 6 with fail
  have x5 := (Below.refl w4.heap.size w4).alloc (Nat.le_refl _) (.cells #[.int .i64 0, .int .i64 0, .int .i64 0, .int .i64 0, .string ⟨#[]⟩, .string ⟨#[]⟩] 47)
  have g5 := push_get w4 (.cells #[.int .i64 0, .int .i64 0, .int .i64 0, .int .i64 0, .string ⟨#[]⟩, .string ⟨#[]⟩] 47)
  generalize w4.alloc (.cells #[.int .i64 0, .int .i64 0, .int .i64 0, .int .i64 0, .string ⟨#[]⟩, .string ⟨#[]⟩] 47) = w5 at *
  have X5 := X4.trans (x5.mono (by have := X4.size; omega))
  have k5 := k4.on x5
  clear x5 X4 k4
  generalize w4.heap.size = gW at *
  go_wp2_with fail
  refine (BytesN9_at lo hi w5).mono ?_
  rintro y w6 ⟨rfl, x6⟩
  dsimp only
  have X6 := X5.trans (x6.mono (by have := X5.size; omega))
  have k6 := k5.on x6
  have g6 := bk9_on g5 x6
  clear x6 X5 k5 g5
  go_wp2_with fail
  refine (SplitN9_at lo w6).mono ?_
  rintro y w7' ⟨rfl, rfl⟩
  dsimp only
  obtain ⟨a7, c7, w7, r7, x7, _⟩ := copyNew w7' a0 cap l (unhide HB w7' X6)
  have R7 := hide r7
  have X7 := X6.trans (x7.mono (by have := X6.size; omega))
  have k7 := k6.on x7
  have g7 := bk9_on g6 x7
  clear r7 x7 X6 k6 g6
  go_wp2_with (at_builtin; refine wpList_append_known rfl _ _ 22 22 rfl _ _ rfl rfl _ _ (unhide R7) ?_)
  refine (ReplN9_at _ lo hi w7).mono ?_
  rintro y w8 ⟨rfl, x8⟩
  dsimp only
  have X8 := X7.trans (x8.mono (by have := X7.size; omega))
  have k8 := k7.on x8
  have g8 := bk9_on g7 x8
  clear R7 x8 X7 k7 g7
  go_wp2_with fail
  refine (RoJoinNA_at p w8).mono ?_
  rintro y w9 ⟨rfl, rfl⟩
  dsimp only
  go_wp2_with fail
  refine (joinNil p (unhide HP) w9).mono ?_
  rintro y w10 ⟨rfl, rfl⟩
  dsimp only
  obtain ⟨q0, q1, q2, q3, q4, q5, _⟩ := cells6 g8
  have hnf := fnn9s
  go_upto_region 15 with fail
  clear q0 q1 q2 q3 q4 q5 g8
  go_wp2_with fail
  refine (Pieces9_at (.pointer none) .nilIface none lo _ w10 (Or.inl ⟨rfl, rfl⟩) rfl).mono ?_
  rintro y w11 ⟨rfl, hpc, z11, x11⟩
  dsimp only
  have X11 := X8.trans (x11.mono (by have := X8.size; omega))
  have k11 := k8.on x11
  have hseq := pieces1_P w w10.heap.size .nilIface none lo _ n (fun _ => False) w11 hpc rfl (by decide) (hn ▸ X11) (by omega) (hn ▸ X11.size)
  rw [pcsE_none] at hseq
  clear x11 X8 k8
  have hnL : n < w11.heap.size := k11.lt
  unfold pcsV
  generalize w10.heap.size = B at *
  clear hpc z11
  go_wp2_with fail
  refine (wpIn_wide (n := 4)).1 ?_
  refine range_p (gf := 38) (lb := #[.pointer (some ⟨B, 0, none⟩), .pointer (some ⟨B + 2, 0, none⟩), .pointer (some ⟨B + 1, 0, none⟩)]) rfl (enters_of Tryd.func38 (by kernel_rfl) rfl) hseq (Below.refl _ _) (by omega) (fun k hk => hk.elim) rfl
    (fun _ X => Cb X n 4 (.bool false) ∧ Below n w X) (fun _ _ _ => False) (fun _ _ _ h hb => ⟨h.1.below hb.1 hnL, h.2.trans (hb.1.mono (by omega))⟩) (fun _ _ _ _ h _ => h) ⟨k11, X11⟩ (by decide)
    (fun _ _ _ => True) ?hax ?assign ?body ?done ?stop
  case hax => exact fun v a' X k o o' hX h => h
  case assign =>
    rintro k pre x v X K hpre hi hsz hnw hK
    gi_wp2
    exact hK _ _ (Below.refl _ X) trivial
  case body =>
    rintro k pre x v a' X hk1 hk2 _ hpre
    exact absurd hpre.length_le (by simp)
  case stop =>
    rintro D c pre X hD hpre h hK
    exact h.elim
  case done =>
    rintro D X hD ⟨q0, qb⟩ hK
    have HF1 := hide (First9_at (.pointer none) none 25 #[] (fun _ => true) · (RoV.nil _) (by decide) · (enters_of Tryd.func25 (by kernel_rfl) rfl) (fun k Y hk _ => by
      obtain rfl : k = 0 := by simpa [txtO] using hk
      exact rn1_at Y))
    have HF2 := hide (First9_at (.pointer none) none 26 #[] (fun _ => false) · (RoV.nil _) (by decide) · (enters_of Tryd.func26 (by kernel_rfl) rfl) (fun k Y hk _ => by
      obtain rfl : k = 0 := by simpa [txtO] using hk
      exact rn2_at Y))
    have HWN := hide fun (X : World) => WeldN9_at X
    rw [show weV zeroWe = .agg #[.int .i64 0, .int .i64 0, .int .i64 0, .int .i64 0, .string ⟨#[]⟩, .string ⟨#[]⟩] from rfl] at HWN
    have e0 := q0.cell
    go_wp2_with fail
    refine (LenN9_at X).mono ?_
    rintro y X1 ⟨rfl, rfl⟩
    dsimp only
    go_wp2_with fail
    refine (DepthN9_at X1).mono ?_
    rintro y X2 ⟨rfl, rfl⟩
    dsimp only
    go_wp2_with fail
    refine (unhide HWN X2).mono ?_
    rintro y X3 ⟨rfl, x3⟩
    dsimp only
    have Q3 := qb.trans (x3.mono (by have := qb.size; omega))
    have k3 := q0.on x3
    have hK3 := bk9_on hK x3
    clear x3 HWN e0 q0 qb hK
    go_wp2_with fail
    refine (unhide HF1 X3 (unhide HW X3 Q3)).mono ?_
    rintro y X4 ⟨n4, rfl, hf4, x4⟩
    obtain rfl : n4 = 0 := by
      rcases hf4 with ⟨_, h⟩ | ⟨h, _⟩ | ⟨h, _⟩
      · exact h
      · cases h
      · cases h
    dsimp only
    have Q4 := Q3.trans (x4.mono (by have := Q3.size; omega))
    have k4 := k3.on x4
    have hK4 := bk9_on hK3 x4
    clear x4 HF1 k3 hK3 hf4
    go_wp2_with fail
    refine (unhide HF2 X4 (unhide HW X4 Q4)).mono ?_
    rintro y X5 ⟨n5, rfl, hf5, x5⟩
    obtain rfl : n5 = -1 := by
      rcases hf5 with ⟨h, _⟩ | ⟨_, _, h⟩ | ⟨_, m, _, _, _, _, h⟩
      · cases h
      · exact h
      · cases h
    dsimp only
    have Q5 := Q4.trans (x5.mono (by have := Q4.size; omega))
    have k5 := k4.on x5
    have hK5 := bk9_on hK4 x5
    have f5 := k5.frozen
    have e5 := k5.cell
    clear x5 HF2 k4 hK4 hf5 Q4 Q3
    go_wp2_with fail
    have k6 := k5.set (.bool true)
    have hK6 : (X5.setCell ⟨n, 0, none⟩ (.bool true)).heap[D]? = some (.deferred (some [])) := (Below.heap_setCell X5 ⟨n, 0, none⟩ _ D (by show D ≠ n; omega)).trans hK5
    have Q6 := Q5.setCell (p := ⟨n, 0, none⟩) (Nat.le_refl _) (.bool true)
    generalize X5.setCell ⟨n, 0, none⟩ (.bool true) = Z at *
    refine ⟨by simp, .inl ⟨_, _, rfl, run_takeDeferred hK6, ?_⟩⟩
    have hbp := below_putP (N := n + 1) Z D (.deferred none) (by omega)
    have e6 := (k6.below hbp (by omega)).cell
    exact ⟨.bool true, by simp [results, Tryd.results5, go_sem, e6], rfl, hn ▸ (Q6.trans (hbp.mono (by omega)))⟩

end Go.Proofs.YthkdnmekfldloaaDoor
end

section
namespace Go.Proofs.YthkdnmekfldloaaDoor
open Go.ChangeShapes Go.WideShapes Go.ChangeAt Go.RowKit
open Go.ChangeMaps (open_string shut_string)

set_option maxRecDepth 100000 in
theorem ropeNil_contract (H : Type) (enc : TypeId × Value → H) (W : World) (base : Nat) (args : Array Value) (ds gs : List (DataW H)) (before : List MemPlace)
    (hval : ∀ (j : Nat) t v, Tryd.f5.params[j]? = some t → args[j]? = some v → Value.okWide Tryd.prog W .any base t v)
    (hW : DataW.Whole enc Tryd.prog Tryd.f5.params.toList Rows.ropeNilSpec.vars false W args.toList ds gs before) (hsz : (DataW.weightsEach Tryd.prog (Tryd.f5.params.toList ++ (OpenSpec.ofChange Rows.ropeNilSpec).bare.plain.varTypes Tryd.prog) (ds ++ gs)).all (· ≤ reachBytes) = true) (hL : laidMetH Tryd.prog Rows.ropeNilRow.laid W) (hsh : W.ShapedOpen Tryd.prog) :
    Calls Tryd.prog 5 args W fun e W' => ∃ v, e = .returned v ∧ Rows.ropeNilSpec.post enc Tryd.prog Tryd.f5 false true false false W args v W' := by
  have hW' := hW
  obtain ⟨p, q, hA0, hV, rfl, _, _⟩ := hW
  have hA : DataW.TrodAll enc Tryd.prog W 0 (fun _ => true) true Tryd.f5.params.toList args.toList ds p := hA0
  rw [Tryd.params5] at hA hval hsz
  obtain ⟨v0, vs0, d0, ds0, p0, q0, hargs, rfl, rfl, h0, r0⟩ := trodAll_cons hA
  obtain ⟨v1, vs1, d1, ds1, p1, q1, rfl, rfl, rfl, h1, r1⟩ := trodAll_cons r0
  obtain ⟨v2, vs2, d2, ds2, p2, q2, rfl, rfl, rfl, h2, r2⟩ := trodAll_cons r1
  obtain ⟨rfl, rfl, rfl⟩ := trodAll_nil r2
  obtain rfl : args = #[v0, v1, v2] := by cases args; simp_all
  obtain ⟨rfl, rfl⟩ := trodVars_none hV
  obtain ⟨x0, rfl, rfl, rfl, w0⟩ := open_int Tryd.underlying3 (hval 0 3 v0 rfl rfl) h0
  obtain ⟨x1, rfl, rfl, rfl, w1⟩ := open_int Tryd.underlying3 (hval 1 3 v1 rfl rfl) h1
  obtain ⟨a2, len2, cap2, rfl⟩ := okWide_slice Tryd.underlying22 (hval 2 22 v2 rfl rfl)
  have k2 := h2
  have lt2 : ∀ x ∈ p2, x.block < W.heap.size := by obtain ⟨m, hm⟩ := k2; exact DataW.trod_lt m _ _ _ hm
  obtain ⟨l2, rfl, w2⟩ := rowN_of_trod h2 hsz (j := 2) rfl rfl
  clear hA0
  refine (RopeNil_any x0 x1 a2 cap2 l2 W w0 w1 w2 (wt_of hL hsh)).mono fun e W' ⟨he, bel⟩ => ?_
  subst he
  exact ⟨_, rfl, _, _, _, [], _, [], hW', trodAll_mk1 (shut_bool Tryd.underlying4 _), (trodAll_cons_mk (shut_int Tryd.underlying3 w0) (trodAll_cons_mk (shut_int Tryd.underlying3 w1) (trodAll_cons_mk (Below.trod laidOut (by kernel_rfl) (of_decide_eq_true (by kernel_rfl)) k2 bel lt2) trodAll_mk0))), rfl, bel.frame _, fun h => by cases h⟩

theorem ropeNil_met (os : Os) : laidMet Tryd.prog Rows.ropeNilRow.laid ((laidWorldW os).forCall (fun _ _ => 0) ⟨#[], #[.int .i64 0, .int .i64 0, .slice none 0 0], []⟩).memory :=
  laidMet_of_run' 8 (by kernel_rfl) (by kernel_rfl)
theorem ropeNil_reads (os : Os) {H : Type} (enc : TypeId × Value → H) : ∃ places, DataW.whole enc Tryd.prog ((laidWorldW os).forCall (fun _ _ => 0) ⟨#[], #[.int .i64 0, .int .i64 0, .slice none 0 0], []⟩).memory Tryd.f5.params.toList Rows.ropeNilSpec.vars false (#[.int .i64 0, .int .i64 0, .slice none 0 0] : Array Value).toList 8 = some ([.lit (.int .i64 0), .lit (.int .i64 0), .nil], [], places) :=
  ⟨[], by kernel_rfl⟩

set_option maxRecDepth 100000 in
theorem ropeNil_lifted (os : Os) (started : os.Started) (H : Type) (enc : TypeId × Value → H) (F : Stop.Interp) :
    ReturnsInHanded {} Tryd.checked os 5 .any ((OpenSpec.ofChange Rows.ropeNilSpec).preRow enc Tryd.prog Tryd.f5 Rows.ropeNilRow.domain false Rows.ropeNilRow.laid) (((OpenSpec.ofChange Rows.ropeNilSpec).at F).post enc Tryd.prog Tryd.f5 false true false false) := by
  obtain ⟨places, hx⟩ := ropeNil_reads os enc
  refine returnsInHanded_of_row (C := Tryd.checked) (s := OpenSpec.ofChange Rows.ropeNilSpec) own started (by kernel_rfl) Tryd.func5
    (witness_row_at (enc := enc) (C := Tryd.checked) false (laidWorldW os) #[.int .i64 0, .int .i64 0, .slice none 0 0] rfl (by kernel_rfl) (by kernel_rfl) (by kernel_rfl)
      (OpenSpec.preRow_of_cond 8 hx (by kernel_rfl) (fun k hk => by cases hk) (by kernel_rfl) (ropeNil_met os))) ?_
  intro W base args ds gs before hval hW _ _ hsz hL hsh _
  exact ropeNil_contract H enc W base args ds gs before hval hW hsz hL hsh

theorem ropeNil_said : Rows.RopeNilSaid :=
  OpenClaim.holds_of_cond 5 Tryd.f5 rfl rfl rfl rfl rfl rfl rfl ⟨rfl, rfl, rfl, rfl, rfl⟩ rfl rfl rfl rfl rfl (by kernel_rfl) Tryd.func5 (by kernel_rfl)
    (of_decide_eq_true (by kernel_rfl)) (by unfold Func.isWrapper; first | (rw [if_pos (by decide +kernel)]; kernel_rfl) | (rw [if_neg (by decide +kernel)]; exact ⟨rfl, rfl⟩))
    (fun os started H enc _ F => by rw [OpenClaim.pre_eq_preRow]; exact ropeNil_lifted os started H enc F)

theorem ropeNil_plain (f : FuncId) (fn : Func) (hf : Tryd.pinned.checked.prog.funcNamed "galley/galleylaw09.RopeNil" = some f) (hfn : Tryd.pinned.checked.prog.funcs[f]? = some fn) :
    true = Tryd.pinned.checked.prog.looks [] ∧ ∀ (j : Nat) t, fn.params[j]? = some t → Tryd.pinned.checked.prog.wantsStandIn t = false := by
  obtain rfl : f = 5 := Option.some.inj ((show Tryd.prog.funcNamed "galley/galleylaw09.RopeNil" = some 5 by kernel_rfl).symm.trans hf) |>.symm
  obtain rfl : fn = Tryd.f5 := (Option.some.inj (Tryd.func5.symm.trans hfn)).symm
  refine ⟨by kernel_rfl, fun j t ht => ?_⟩
  rw [Tryd.params5] at ht
  have hm := Array.mem_of_getElem? ht
  simp only [List.mem_toArray, List.mem_cons, List.not_mem_nil, or_false] at hm
  rcases hm with rfl | rfl | rfl
  · exact (show Tryd.prog.wantsStandIn 3 = false by kernel_rfl)
  · exact (show Tryd.prog.wantsStandIn 3 = false by kernel_rfl)
  · exact (show Tryd.prog.wantsStandIn 22 = false by kernel_rfl)

/-- the card -/
theorem ropeNil_card : Rows.RopeNilCardSaid :=
  Claim7.holds_tied_plain_at .later [] _ _ _ _ ropeNil_said (fun _ h => by cases h) (by kernel_rfl) (fun _ h => by cases h) ropeNil_row_tie rfl ⟨rfl, rfl⟩ (by kernel_rfl) rfl ropeNil_plain (by kernel_rfl)

#print axioms ropeNil_card
end Go.Proofs.YthkdnmekfldloaaDoor
end
