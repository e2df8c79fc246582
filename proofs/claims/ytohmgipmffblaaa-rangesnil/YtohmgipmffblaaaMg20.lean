/- Layer 16: Behind. · Layer 16: a nil *Ranges; what Behind refuses. · Layer 16: the law's fixed fact; RangesNil. · Layer 16: RangesNil's walk. -/
import Derived.Test.YtohmgipmffblaaaMg19
import Derived.Test.YtohmgipmffblaaaMg11

section
namespace Go.Proofs.Ytohmgipmffblaaa
open Go.ChangeShapes Go.WideShapes Go.ChangeAt Go.RowKit
attribute [local go_sem] Oper.semAt_some

theorem go_len (d : List Dop) (S : List Rg) : (goG d S).length ≤ S.length := by
  unfold goG
  rw [List.length_map]
  exact Nat.le_trans (List.length_filter_le _ _) (by simp)
open Go.Sort in
theorem strs_holds {X : World} {B g c : Nat} {l : List ByteArray} (h : X.ownsRow B 9 1 (.slice (some ⟨g, 0, none⟩) l.length c) l.length (strsV l)) : Holds encStr X g 0 (l.map (·.data.toList)).toArray := fun j hj => by
  have hj' : j < l.length := by simpa using hj
  rcases h.2 with ⟨e, _⟩ | ⟨g', c', cur, e, _, hg, _, _, hs, ht⟩
  · cases e
  · cases e
    refine ⟨?_, by simp [World.frozen?, hg]⟩
    have h1 : cur.toList[j]? = (strsV l)[j]? := by
      rw [← ht, List.getElem?_take_of_lt (by omega)]
    have h2 : (strsV l)[j]? = some (.string l[j]) := by simp [strsV, hj']
    rw [Nat.zero_add]
    have h3 : X.cell? ⟨g, j, none⟩ = cur[j]? := by simp [World.cell?, hg]
    rw [h3, ← Array.getElem?_toList, h1, h2]
    simp [hj']
open Go.Sort in
theorem sort_blocks {α : Type} [Inhabited α] (enc : α → Value) (w : World) (blk off n : Nat) (dk : Array α) (os : Array Obj) : (∀ N, N ≤ blk → N ≤ w.heap.size → Go.RowKit.Below N w (grow (putRow enc (Sort.ahead w n) blk off dk) os)) ∧ ∀ k, k < w.heap.size → k ≠ blk → (grow (putRow enc (Sort.ahead w n) blk off dk) os).heap[k]? = w.heap[k]? := by
  have hk : ∀ k, k < w.heap.size → k ≠ blk → (grow (putRow enc (Sort.ahead w n) blk off dk) os).heap[k]? = w.heap[k]? := fun k h1 h2 => by
    show (w.heap.modify blk _ ++ os)[k]? = _
    rw [Array.getElem?_append_left (by rw [Array.size_modify]; exact h1), Array.getElem?_modify, if_neg (Ne.symm h2)]
  refine ⟨fun N hN hw => ⟨rfl, rfl, rfl, ?_, fun k h => hk k (by omega) (by omega)⟩, hk⟩
  show _ ≤ (w.heap.modify blk _ ++ os).size
  rw [Array.size_append, Array.size_modify]; omega
set_option maxRecDepth 100000 in
theorem GSort_at (w : World) (B : Nat) (a : Option Addr) (c : Nat) (l : List ByteArray) (h : w.ownsRow B 9 1 (.slice a l.length c) l.length (strsV l)) (hl : l.length ≤ 1048576) (hB : B ≤ w.heap.size) :
    Calls Try.prog 38 #[.slice a l.length c] w fun y w' => y = .returned (.tuple #[]) ∧ Below B w w' ∧ w.heap.size ≤ w'.heap.size ∧ ∀ k, k < w.heap.size → (∀ cs t mk, w.heap[k]? ≠ some (.cells cs t mk)) → w'.heap[k]? = w.heap[k]? := by
  by_cases h0 : l = []
  · subst h0
    exact (Try.slices_Sort_string_none a c w).mono fun y w' ⟨e, e2⟩ => by
      subst e2
      exact ⟨e, Below.refl _ _, Nat.le_refl _, fun _ _ _ => rfl⟩
  · obtain ⟨g, c', e, _, hlt⟩ := h.form (List.length_pos_iff.2 h0)
    cases e
    have hH := strs_holds h
    have := Try.slices_Sort_string g 0 c (l.map (·.data.toList)) w hH hlt (by rw [List.length_map]; omega)
    rw [List.length_map] at this
    refine this.mono fun y w' ⟨e, n, os, e2⟩ => ?_
    subst e2
    obtain ⟨b1, b2⟩ := sort_blocks encStr w g 0 n ((l.map (·.data.toList)).mergeSort fun x y => decide (x ≤ y)).toArray os
    have hgB := (rowD_block h (G := g) rfl).1
    refine ⟨e, b1 B hgB hB, (b1 B hgB hB).size, fun k hk hc => b2 k hk fun eq => ?_⟩
    obtain ⟨_, cur, hcur⟩ := rowD_block h (G := g) rfl
    rw [eq] at hc
    exact hc _ _ _ hcur
set_option maxRecDepth 100000 in
set_option maxHeartbeats 4000000 in
theorem GBeh_at (g : Nat) (n : Int) (L : List Rg) (a : Option Addr) (c : Nat) (d : List Dop) (X : World) (h : IsRs X g n L) (ho : IsO X a d) (hl : d.length ≤ 4611686018427387904) (hv : valB d = true) (hf : (frD d : Int) = n) (hN : (L.map (·.n)).Nodup) (hL : L.length ≤ 1024) :
    Calls Try.prog 16 #[.pointer (some ⟨g, 0, none⟩), .slice a d.length c] X fun y X' => ∃ g' S ag cg, y = .returned (.tuple #[.pointer (some ⟨g', 0, none⟩), .slice ag (goG d S).length cg, .int .i64 0]) ∧ S.Perm L ∧ IsRs X' g' (toD d) (kpG d S) ∧ Below X.heap.size X X' := by
  have HLN := hide (Lens_at a c d X ho hl)
  unfold lensV at HLN
  rw [hv] at HLN
  simp only [if_true] at HLN
  have HMV := hide fun (Y : World) (hY : Below X.heap.size X Y) (m : Rg) => GMov_at a c d m Y (ho.below hY (Nat.le_refl _)) hl
  obtain ⟨r, kg0, mg0⟩ := h.c
  have hrX : r < X.heap.size := mg0.lt
  have HS := hide (And.intro kg0 mg0)
  have HN := hide (And.intro hN hL)
  have t1 : ((frD d : Int) != n) = false := by rw [hf]; simp
  have t1' : ((frD d : Int) == n) = true := by rw [hf]; simp
  clear h ho hl hv hf hN hL kg0 mg0
  generalize (toD d : Int) = TD at *
  generalize (frD d : Int) = FD at *
  go_enter Try.func16, Try.ntmps16
  go_wp2_with fail
  refine (unhide HLN).mono ?_
  rintro y w1 ⟨rfl, x1⟩
  dsimp only
  have kg := (unhide HS).1.below x1 (unhide HS).1.lt
  have mg := (unhide HS).2.below x1 (Nat.le_refl _)
  have c0 := kg.cell 0
  have c1 := kg.cell 1
  simp only [List.getElem?_toArray, List.getElem?_cons_zero, List.getElem?_cons_succ] at c0 c1
  obtain ⟨es, clock, hh, hz⟩ := mg.len
  have RL := run_len_map (P := Try.prog) (w := w1) 72 3 r es clock (by kernel_rfl) hh
  simp only [goInt] at RL
  have RM := run_makeMapN w1 es.size
  have b2 := (Below.refl w1.heap.size w1).alloc (Nat.le_refl _) (.map #[] 0)
  have kg2 := kg.below b2 kg.lt
  have c2 := kg2.cell 1
  simp only [List.getElem?_toArray, List.getElem?_cons_zero, List.getElem?_cons_succ] at c2
  obtain ⟨o, RR, it⟩ := ItG.start (P := Try.prog) (w1.alloc (.map #[] 0)) Try.underlying72 (mg.below b2 (Nat.le_refl _))
  have b3 := (Below.refl (w1.alloc (.map #[] 0)).heap.size (w1.alloc (.map #[] 0))).alloc (Nat.le_refl _) o
  have hj : GbJ X ((w1.alloc (.map #[] 0)).alloc o) (w1.alloc (.map #[] 0)).heap.size w1.heap.size r d L [] [] (.slice none 0 0) := ⟨it, (IsRp.new w1).below b3 (Nat.le_refl _), World.ownsRow_nil _ _ _ _, x1.trans ((b2.mono x1.size).trans (b3.mono (Nat.le_trans x1.size b2.size))), Nat.le_trans x1.size b2.size, x1.size⟩
  rw [World.size_alloc] at RR hj
  have HJ := hide hj
  have HKG := hide (kg2.below b3 kg2.lt)
  clear HLN hh hz kg mg b2 kg2 it b3 hj x1 HS
  go_wp2_with fail
  generalize hri : w1.heap.size + 1 = ri at *
  generalize w1.heap.size = r2 at *
  go_loopw [11, 12, 13] (fun v11 v12 v13 wx => ((∃ z, v12 = z) ∧ (∃ z, v13 = z)) ∧ Hid (∃ S, GbJ X wx ri r2 r d L S S v11)) (fun _ _ _ wx => leftN wx r ri)
  case atStart => exact ⟨⟨⟨_, rfl⟩, ⟨_, rfl⟩⟩, hide ⟨[], unhide HJ⟩⟩
  case round =>
    clear HJ
    obtain ⟨⟨⟨z1, rfl⟩, ⟨z2, rfl⟩⟩, HI⟩ := hrel
    obtain ⟨S, hJ⟩ := unhide HI
    rcases hJ.next 0 with ⟨hp, hr⟩ | ⟨m, T, X', hp, hr, he, hJ', hlt⟩
    · obtain ⟨ag, cg, hv11, _⟩ := rowD_form hJ.go
      subst hv11
      have hgl : (goG d S).length ≤ 1048576 := by
        have h1 := go_len d S
        have h2 := hp.length_eq
        have h3 := (unhide HN).2
        omega
      have HC := hide (GSort_at wr X.heap.size ag cg (goG d S) hJ.go hgl hJ.dd.size)
      have HJ := hide hJ
      have HP := hide hp
      clear HI hJ hp hgl
      go_wp2_with fail
      refine (unhide HC).mono ?_
      rintro y w5 ⟨rfl, x5, _, xk⟩
      dsimp only
      have m5 : IsRp w5 r2 (kpG d S) := (unhide HJ).mp.same (xk r2 (unhide HJ).mp.lt fun cs t mk hq => by
        obtain ⟨es', cl', h1, _⟩ := (unhide HJ).mp
        rw [h1] at hq; cases hq)
      have hb5 := (unhide HJ).dd.trans x5
      have k6 := Cls.new w5 74 #[.int .i64 TD, .map (some r2)]
      have m6 : IsRp (w5.alloc (.cells #[.int .i64 TD, .map (some r2)] 74)) r2 (kpG d S) := m5.same (heap_alloc_old _ _ m5.lt)
      have HR : Hid (IsRs (w5.alloc (.cells #[.int .i64 TD, .map (some r2)] 74)) w5.heap.size TD (kpG d S)) := hide ⟨_, k6, m6⟩
      have HB6 := hide (hb5.alloc hb5.size (.cells #[.int .i64 TD, .map (some r2)] 74))
      clear HC HJ m5 hb5 k6 m6 x5 xk
      go_wp2_with fail
      refine bodyPost_ret (results_tmp3 rfl _ _) rfl ?_
      exact ⟨_, S, ag, cg, rfl, unhide HP, unhide HR, unhide HB6⟩
    · obtain ⟨mn, ml, mh, ms, me⟩ := m
      unfold rgV at hr he
      dsimp only at hr he
      have b1 := (Below.refl X'.heap.size X').alloc (Nat.le_refl _) (.cells #[.string mn, .int .i64 ml, .int .i64 mh, .int .i64 ms, .int .i64 me] 37)
      have k1 := Cls.new X' 37 #[.string mn, .int .i64 ml, .int .i64 mh, .int .i64 ms, .int .i64 me]
      have d0 := k1.cell 0
      have d1 := k1.cell 1
      have d2 := k1.cell 2
      have d3 := k1.cell 3
      have d4 := k1.cell 4
      simp only [List.getElem?_toArray, List.getElem?_cons_zero, List.getElem?_cons_succ] at d0 d1 d2 d3 d4
      have HC := hide (unhide HMV _ (hJ'.dd.trans (b1.mono hJ'.dd.size)) ⟨mn, ml, mh, ms, me⟩)
      unfold rgV at HC
      dsimp only at HC
      have HJ' := hide hJ'
      have HP := hide (And.intro hp hlt)
      have HB1 := hide b1
      have HK1 := hide k1
      clear HI hJ hp hJ' hlt b1 k1
      go_wp2_with fail
      refine (unhide HC).mono ?_
      rintro y w2 ⟨rfl, x2⟩
      dsimp only [mvG]
      have hB2 := (unhide HB1).trans (x2.mono (unhide HB1).size)
      have k2 := (unhide HK1).below x2 (unhide HK1).lt
      obtain ⟨V1, hV1⟩ : ∃ V1, V1 = plV d ml ms := ⟨_, rfl⟩
      obtain ⟨V2, hV2⟩ : ∃ V2, V2 = plV d mh me := ⟨_, rfl⟩
      rw [← hV1, ← hV2]
      have HV := hide (And.intro hV1 hV2)
      have g0 := k2.cell 0
      have g1 := k2.cell 1
      have g2 := k2.cell 2
      have g3 := k2.cell 3
      have g4 := k2.cell 4
      have z0 := k2.frozen 0
      have z1 := k2.frozen 1
      have z2 := k2.frozen 2
      have z3 := k2.frozen 3
      have z4 := k2.frozen 4
      have k9 := ((((k2.set 0 (.string mn)).set 1 (.int .i64 V1)).set 2 (.int .i64 V2)).set 3 (.int .i64 ms)).set 4 (.int .i64 me)
      have hB9 := ((((hB2.setCell (p := ⟨X'.heap.size, 0, none⟩) (Nat.le_refl _) (.string mn)).setCell (p := ⟨X'.heap.size, 1, none⟩) (Nat.le_refl _) (.int .i64 V1)).setCell (p := ⟨X'.heap.size, 2, none⟩) (Nat.le_refl _) (.int .i64 V2)).setCell (p := ⟨X'.heap.size, 3, none⟩) (Nat.le_refl _) (.int .i64 ms)).setCell (p := ⟨X'.heap.size, 4, none⟩) (Nat.le_refl _) (.int .i64 me)
      simp only [List.getElem?_toArray, List.getElem?_cons_zero, List.getElem?_cons_succ, List.setIfInBounds_toArray, List.set_cons_zero, List.set_cons_succ] at g0 g1 g2 g3 g4 k9
      have HJ9 := hide ((unhide HJ').on hB9)
      have HL9 := hide (leftN_same (hB9.block ri (unhide HJ').it.lt.1) (hB9.block r (unhide HJ').it.lt.2))
      have HK9 := hide k9
      clear HC HB1 HK1 x2 hB2 k2 hV1 hV2 k9 hB9 HJ' d0 d1 d2 d3 d4 hr he
      go_upto_region 14 with fail
      clear g0 g1 g2 g3 g4 z0 z1 z2 z3 z4
      generalize ((((w2.setCell ⟨X'.heap.size, 0, none⟩ (.string mn)).setCell ⟨X'.heap.size, 1, none⟩ (.int .i64 V1)).setCell ⟨X'.heap.size, 2, none⟩ (.int .i64 V2)).setCell ⟨X'.heap.size, 3, none⟩ (.int .i64 ms)).setCell ⟨X'.heap.size, 4, none⟩ (.int .i64 me) = w9 at *
      have d0 := (unhide HK9).cell 0
      have d1 := (unhide HK9).cell 1
      have d2 := (unhide HK9).cell 2
      have d3 := (unhide HK9).cell 3
      have d4 := (unhide HK9).cell 4
      simp only [List.getElem?_toArray, List.getElem?_cons_zero, List.getElem?_cons_succ] at d0 d1 d2 d3 d4
      clear HK9
      by_cases hk : V1 < V2
      · have t3 : decide (V1 < V2) = true := decide_eq_true hk
        have hk' : (mvG d ⟨mn, ml, mh, ms, me⟩).lo < (mvG d ⟨mn, ml, mh, ms, me⟩).hi := by
          show plV d ml ms < plV d mh me
          rw [← (unhide HV).1, ← (unhide HV).2]; exact hk
        obtain ⟨o, RU, hJ2, hl2⟩ := (unhide HJ9).put (unhide HP).1 (unhide HN).1 hrX hk'
        unfold rgV mvG at RU
        dsimp only at RU
        rw [← (unhide HV).1, ← (unhide HV).2] at RU
        have HJ2 := hide hJ2
        have HM2 := hide (hl2.trans (unhide HL9))
        clear hk hk' hJ2 hl2 HJ9 HL9 HV
        generalize ({ w9 with heap := w9.heap.setIfInBounds r2 o } : World) = wA at *
        go_wp2_with fail
        go_roundw
        case rel => exact ⟨⟨⟨_, rfl⟩, ⟨_, rfl⟩⟩, hide ⟨_, unhide HJ2⟩⟩
        case measure => rw [unhide HM2]; exact (unhide HP).2
      · have t3 : decide (V1 < V2) = false := decide_eq_false hk
        have hk' : ¬ (mvG d ⟨mn, ml, mh, ms, me⟩).lo < (mvG d ⟨mn, ml, mh, ms, me⟩).hi := by
          show ¬ plV d ml ms < plV d mh me
          rw [← (unhide HV).1, ← (unhide HV).2]; exact hk
        have hgl : (goG d S).length ≤ 4398046511104 := by
          have h1 := go_len d S
          have h2 := (unhide HP).1.length_eq
          have h3 := (unhide HN).2
          rw [List.length_append] at h2
          omega
        obtain ⟨v', W', ra, hJ2, hl2⟩ := (unhide HJ9).goes hrX hk' hgl
        dsimp only at ra
        have R := hide ra
        have HJ2 := hide hJ2
        have HM2 := hide (hl2.trans (unhide HL9))
        clear hk hk' hJ2 hl2 HJ9 HL9 HV hgl ra
        go_wp2_with (at_builtin; refine wpList_append_known rfl _ _ 49 49 rfl _ _ rfl rfl _ _ (unhide R) ?_; clear R)
        go_roundw
        case rel => exact ⟨⟨⟨_, rfl⟩, ⟨_, rfl⟩⟩, hide ⟨_, unhide HJ2⟩⟩
        case measure => rw [unhide HM2]; exact (unhide HP).2
end Go.Proofs.Ytohmgipmffblaaa
end

section
namespace Go.Proofs.Ytohmgipmffblaaa
open Go.ChangeShapes Go.WideShapes Go.ChangeAt Go.RowKit
attribute [local go_sem] Oper.semAt_some

set_option maxRecDepth 100000 in
set_option maxHeartbeats 1000000 in
theorem GLenN_at (X : World) : Calls Try.prog 25 #[.pointer none] X fun y X' => y = .returned (.int .i64 0) ∧ Below X.heap.size X X' := by
  go_enter Try.func25, Try.ntmps25
  go_wp2_with fail
  refine bodyPost_ret (results_tmp rfl _ _ _) rfl ⟨rfl, Below.refl _ _⟩
set_option maxRecDepth 100000 in
set_option maxHeartbeats 1000000 in
theorem GDropN_at (s : ByteArray) (X : World) : Calls Try.prog 24 #[.pointer none, .string s] X fun y X' => y = .returned (.tuple #[.pointer none, .int .i64 1]) ∧ Below X.heap.size X X' := by
  go_enter Try.func24, Try.ntmps24
  go_wp2_with fail
  refine bodyPost_ret (results_tmp2 rfl _ _ _) rfl ⟨rfl, Below.refl _ _⟩
set_option maxRecDepth 100000 in
set_option maxHeartbeats 1000000 in
theorem GOverN_at (a b : Int) (X : World) : Calls Try.prog 23 #[.pointer none, .int .i64 a, .int .i64 b] X fun y X' => y = .returned (.slice none 0 0) ∧ Below X.heap.size X X' := by
  go_enter Try.func23, Try.ntmps23
  go_wp2_with fail
  refine bodyPost_ret (results_tmp rfl _ _ _) rfl ⟨rfl, Below.refl _ _⟩
set_option maxRecDepth 100000 in
set_option maxHeartbeats 1000000 in
theorem GBehN_at (v : Value) (X : World) : Calls Try.prog 16 #[.pointer none, v] X fun y X' => y = .returned (.tuple #[.pointer none, .slice none 0 0, .int .i64 1]) ∧ Below X.heap.size X X' := by
  go_enter Try.func16, Try.ntmps16
  go_wp2_with fail
  refine bodyPost_ret (results_tmp3 rfl _ _) rfl ⟨rfl, Below.refl _ _⟩
set_option maxRecDepth 100000 in
set_option maxHeartbeats 1000000 in
theorem GGetN_at (s : ByteArray) (X : World) : Calls Try.prog 20 #[.pointer none, .string s] X fun y X' => y = .returned (.tuple #[.agg #[.string ⟨#[]⟩, .int .i64 0, .int .i64 0, .int .i64 0, .int .i64 0], .bool false]) ∧ Below X.heap.size X X' := by
  have b0 := (Below.refl X.heap.size X).alloc (Nat.le_refl _) (.cells #[.string ⟨#[]⟩, .int .i64 0, .int .i64 0, .int .i64 0, .int .i64 0] 37)
  have k0 := Cls.new X 37 #[.string ⟨#[]⟩, .int .i64 0, .int .i64 0, .int .i64 0, .int .i64 0]
  have HB := hide b0
  have f0 := k0.frozen 0
  have f1 := k0.frozen 1
  have f2 := k0.frozen 2
  have f3 := k0.frozen 3
  have f4 := k0.frozen 4
  have e0 := k0.cell 0
  have e1 := k0.cell 1
  have e2 := k0.cell 2
  have e3 := k0.cell 3
  have e4 := k0.cell 4
  simp only [List.getElem?_toArray, List.getElem?_cons_zero, List.getElem?_cons_succ] at e0 e1 e2 e3 e4
  clear b0 k0
  go_enter Try.func20, Try.ntmps20
  go_wp2_with fail
  refine bodyPost_ret (v := .tuple #[.agg #[.string ⟨#[]⟩, .int .i64 0, .int .i64 0, .int .i64 0, .int .i64 0], .bool false]) (by simp [results, Try.results20, go_sem, e0, e1, e2, e3, e4]) rfl ⟨rfl, unhide HB⟩
set_option maxRecDepth 100000 in
set_option maxHeartbeats 1000000 in
theorem GListN_at (X : World) : Calls Try.prog 14 #[.pointer none] X fun y X' => y = .returned (.slice none 0 0) ∧ Below X.heap.size X X' := by
  have H1 := hide (GLenN_at X)
  have H2 := hide fun (Y : World) (a b : Int) => GOverN_at a b Y
  go_enter Try.func14, Try.ntmps14
  go_wp2_with fail
  refine (unhide H1).mono ?_
  rintro y w1 ⟨rfl, x1⟩
  dsimp only
  have HX1 := hide x1
  have HC := hide (unhide H2 w1 0 0)
  clear H1 H2 x1
  go_wp2_with fail
  refine (unhide HC).mono ?_
  rintro y w2 ⟨rfl, x2⟩
  dsimp only
  have HX2 := hide ((unhide HX1).trans (x2.mono (unhide HX1).size))
  clear HC HX1 x2
  go_wp2_with fail
  refine bodyPost_ret (results_tmp rfl _ _ _) rfl ⟨rfl, unhide HX2⟩
set_option maxRecDepth 100000 in
set_option maxHeartbeats 1000000 in
theorem GCovN_at (X : World) : Calls Try.prog 22 #[.pointer none] X fun y X' => y = .returned (.slice none 0 0) ∧ Below X.heap.size X X' := by
  have H1 := hide (GListN_at X)
  go_enter Try.func22, Try.ntmps22
  go_wp2_with fail
  refine (unhide H1).mono ?_
  rintro y w1 ⟨rfl, x1⟩
  dsimp only
  have HX1 := hide x1
  clear H1 x1
  go_wp2_with fail
  go_loopw [3, 5, 6, 10] (fun v3 v5 v6 v10 wx => ((∃ z, v5 = z) ∧ (∃ z, v6 = z)) ∧ v3 = .slice none 0 0 ∧ v10 = .int .i64 0 ∧ Hid (Below X.heap.size X wx)) (fun _ _ _ _ _ => 0)
  case atStart => exact ⟨⟨⟨_, rfl⟩, ⟨_, rfl⟩⟩, rfl, rfl, HX1⟩
  case round =>
    obtain ⟨⟨⟨z1, rfl⟩, ⟨z2, rfl⟩⟩, rfl, rfl, HX⟩ := hrel
    clear HX1
    go_wp2_with fail
    refine bodyPost_ret (results_tmp rfl _ _ _) rfl ⟨rfl, unhide HX⟩
set_option maxRecDepth 100000 in
set_option maxHeartbeats 1000000 in
theorem GSetN_at (x : Rg) (X : World) : Calls Try.prog 13 #[.pointer none, rgV x] X fun y X' => y = .returned (.tuple #[.pointer none, .int .i64 1]) ∧ Below X.heap.size X X' := by
  obtain ⟨xn, xl, xh, xs, xe⟩ := x
  unfold rgV
  dsimp only
  have HR : Hid (∀ Y : World, Calls Try.prog 32 #[.pointer none, .agg #[.string xn, .int .i64 xl, .int .i64 xh, .int .i64 xs, .int .i64 xe]] Y fun y X' => y = .returned (.int .i64 1) ∧ Below Y.heap.size Y X') := hide fun Y => by
    have HB := hide ((Below.refl Y.heap.size Y).alloc (Nat.le_refl _) (.cells #[.string xn, .int .i64 xl, .int .i64 xh, .int .i64 xs, .int .i64 xe] 37))
    go_enter Try.func32, Try.ntmps32
    go_wp2_with fail
    refine bodyPost_ret (results_tmp rfl _ _ _) rfl ⟨rfl, unhide HB⟩
  have b1 := (Below.refl X.heap.size X).alloc (Nat.le_refl _) (.cells #[.string xn, .int .i64 xl, .int .i64 xh, .int .i64 xs, .int .i64 xe] 37)
  have k1 := Cls.new X 37 #[.string xn, .int .i64 xl, .int .i64 xh, .int .i64 xs, .int .i64 xe]
  have d0 := k1.cell 0
  have d1 := k1.cell 1
  have d2 := k1.cell 2
  have d3 := k1.cell 3
  have d4 := k1.cell 4
  simp only [List.getElem?_toArray, List.getElem?_cons_zero, List.getElem?_cons_succ] at d0 d1 d2 d3 d4
  have HB := hide b1
  have HC := hide (unhide HR (X.alloc (.cells #[.string xn, .int .i64 xl, .int .i64 xh, .int .i64 xs, .int .i64 xe] 37)))
  clear b1 k1 HR
  go_enter Try.func13, Try.ntmps13
  go_wp2_with fail
  refine (unhide HC).mono ?_
  rintro y w1 ⟨rfl, x1⟩
  dsimp only
  have HX := hide ((unhide HB).trans (x1.mono (unhide HB).size))
  clear HC HB x1 d0 d1 d2 d3 d4
  go_wp2_with fail
  refine bodyPost_ret (results_tmp2 rfl _ _ _) rfl ⟨rfl, unhide HX⟩
end Go.Proofs.Ytohmgipmffblaaa
end

section
namespace Go.Proofs.Ytohmgipmffblaaa
open Go.ChangeShapes Go.WideShapes Go.ChangeAt Go.RowKit
attribute [local go_sem] Oper.semAt_some

def exR : Rg := ⟨⟨#[97]⟩, 2, 5, 2, 1⟩
def exD16 : List Dop := [⟨1, 2, []⟩, ⟨2, 0, [120, 121]⟩, ⟨1, 8, []⟩]
theorem ex16_v : valB exD16 = true ∧ frD exD16 = 10 ∧ toD exD16 = 12 := by decide
theorem ex16_p : plV exD16 2 2 = 4 ∧ plV exD16 5 1 = 7 := by decide
theorem ex16_r : refG 10 [] exR = 0 := by decide
theorem ex16_k : kpG exD16 [exR] = [⟨⟨#[97]⟩, 4, 7, 2, 1⟩] ∧ goG exD16 [exR] = [] := by
  have e : mvG exD16 exR = ⟨⟨#[97]⟩, 4, 7, 2, 1⟩ := by
    unfold mvG exR
    dsimp only
    rw [ex16_p.1, ex16_p.2]
  unfold kpG goG
  rw [List.map_singleton, e]
  exact ⟨rfl, rfl⟩
theorem lit_isOR (X : World) (ds : List Dop) (cs : Array Value) (h : cs.toList = opsV ds) : IsO (X.alloc (.cells cs 61)) (some ⟨X.heap.size, 0, none⟩) ds := by
  refine Or.inr ⟨_, _, rfl, by simp, fun k hk => ?_⟩
  have f : ∀ j, (X.alloc (.cells cs 61)).cell? ⟨X.heap.size, j, none⟩ = cs[j]? := fun j => World.cell?_alloc_mark X _ _ (0, 0) j
  have g : ∀ j, j < 3 → cs[k * 3 + j]? = (opL (ds.getD k opZ))[j]? := fun j hj => by
    rw [← opsV_get ds k j hk hj, ← h, Array.getElem?_toList]
  refine ⟨?_, ?_, ?_⟩
  · rw [Nat.zero_add, f]; exact g 0 (by decide)
  · rw [Nat.zero_add, f]; exact g 1 (by decide)
  · rw [Nat.zero_add, f]; exact g 2 (by decide)
set_option maxRecDepth 100000 in
set_option maxHeartbeats 2000000 in
theorem awake16_at (X : World) : Calls Try.prog 9 #[] X fun y X' => y = .returned (.bool true) ∧ Below X.heap.size X X' := by
  have H1 := hide (GNew_at 10 X (by decide))
  have H2 := hide fun (Y : World) (g : Nat) (h : IsRs Y g 10 []) => GSet_at g 10 [] exR Y h ex16_r
  have H3 := hide fun (Y : World) (g : Nat) (h : IsRs Y g 10 [exR]) => GBeh_at g 10 [exR] (some ⟨Y.heap.size, 0, none⟩) 3 exD16 (Y.alloc (.cells #[.int .i64 1, .int .i64 2, .string ⟨#[]⟩, .int .i64 2, .int .i64 0, .string ⟨#[120, 121]⟩, .int .i64 1, .int .i64 8, .string ⟨#[]⟩] 61)) (h.below ((Below.refl _ _).alloc (Nat.le_refl _) _) (Nat.le_refl _)) (lit_isOR Y exD16 _ (by kernel_rfl)) (by decide) ex16_v.1 (by rw [ex16_v.2.1]; rfl) (by simp) (by simp)
  have H4 := hide fun (Y : World) (g : Nat) (h : IsRs Y g 12 [⟨⟨#[97]⟩, 4, 7, 2, 1⟩]) => GGet_at g 12 [⟨⟨#[97]⟩, 4, 7, 2, 1⟩] ⟨#[97]⟩ Y h
  rw [show ((getG ⟨#[97]⟩ [(⟨⟨#[97]⟩, 4, 7, 2, 1⟩ : Rg)]).map rgV).getD (.agg #[.string ⟨#[]⟩, .int .i64 0, .int .i64 0, .int .i64 0, .int .i64 0]) = .agg #[.string ⟨#[97]⟩, .int .i64 4, .int .i64 7, .int .i64 2, .int .i64 1] from rfl, show (getG ⟨#[97]⟩ [(⟨⟨#[97]⟩, 4, 7, 2, 1⟩ : Rg)]).isSome = true from rfl] at H4
  rw [show rgV exR = .agg #[.string ⟨#[97]⟩, .int .i64 2, .int .i64 5, .int .i64 2, .int .i64 1] from rfl, show putG exR [] = [exR] from rfl] at H2
  rw [show exD16.length = 3 from rfl, ex16_v.2.2] at H3
  go_enter Try.func9, Try.ntmps9
  go_wp2_with fail
  refine (unhide H1).mono ?_
  rintro y w1 ⟨g1, rfl, _, s1, x1⟩
  dsimp only
  have HX1 := hide x1
  have HC2 := hide (unhide H2 w1 g1 s1)
  clear H1 H2 s1 x1
  go_wp2_with fail
  refine (unhide HC2).mono ?_
  rintro y w2 ⟨g2, rfl, s2, x2⟩
  dsimp only
  have HX2 := hide ((unhide HX1).trans (x2.mono (unhide HX1).size))
  have HC3 := hide (unhide H3 w2 g2 s2)
  clear HC2 HX1 H3 s2 x2
  go_wp2_with fail
  refine (unhide HC3).mono ?_
  rintro y w3 ⟨g3, S, ag, cg, rfl, hp, s3, x3⟩
  dsimp only
  obtain rfl : S = [exR] := List.perm_singleton.1 hp
  rw [ex16_k.1] at s3
  rw [ex16_k.2]
  have b3 := (Below.refl w2.heap.size w2).alloc (Nat.le_refl _) (.cells #[.int .i64 1, .int .i64 2, .string ⟨#[]⟩, .int .i64 2, .int .i64 0, .string ⟨#[120, 121]⟩, .int .i64 1, .int .i64 8, .string ⟨#[]⟩] 61)
  have HX3 := hide ((unhide HX2).trans ((b3.trans (x3.mono b3.size)).mono (unhide HX2).size))
  have HC4 := hide (unhide H4 w3 g3 s3)
  clear HC3 HX2 H4 hp s3 x3 b3
  go_wp2_with fail
  refine (unhide HC4).mono ?_
  rintro y w4 ⟨rfl, x4⟩
  dsimp only
  have hx4 := (unhide HX3).trans (x4.mono (unhide HX3).size)
  have k5 := Cls.new w4 37 #[.string ⟨#[97]⟩, .int .i64 4, .int .i64 7, .int .i64 2, .int .i64 1]
  have c1 := k5.cell 1
  have c2 := k5.cell 2
  simp only [List.getElem?_toArray, List.getElem?_cons_zero, List.getElem?_cons_succ] at c1 c2
  have HB := hide (hx4.alloc hx4.size (.cells #[.string ⟨#[97]⟩, .int .i64 4, .int .i64 7, .int .i64 2, .int .i64 1] 37))
  clear HC4 HX3 x4 hx4 k5
  go_wp2_with fail
  refine bodyPost_ret (results_tmp rfl _ _ _) rfl ⟨rfl, unhide HB⟩
end Go.Proofs.Ytohmgipmffblaaa
end

section
namespace Go.Proofs.Ytohmgipmffblaaa
open Go.ChangeShapes Go.WideShapes Go.ChangeAt Go.RowKit
attribute [local go_sem] Oper.semAt_some

set_option maxRecDepth 100000 in
set_option maxHeartbeats 4000000 in
theorem RangesNil_any (m : Rg) (a : Option Addr) (c : Nat) (d : List Dop) (w : World) (ho : IsO w a d) (hz : d = [] ∨ ∃ q, a = some q) (hb : d.length * 32 ≤ 140737488355328) (_ht : ∀ o ∈ d, TbD o ∧ o.t.length ≤ 140737488355328) :
    Calls Try.prog 8 #[rgV m, .slice a d.length c] w fun y w' => y = .returned (.bool true) ∧ Below w.heap.size w w' := by
  obtain ⟨xn, xl, xh, xs, xe⟩ := m
  have HSet := hide fun (Y : World) => GSetN_at ⟨xn, xl, xh, xs, xe⟩ Y
  unfold rgV at HSet ⊢
  dsimp only at HSet ⊢
  have HCP := hide fun (Y : World) (hY : Below w.heap.size w Y) => RCopy_at a c d Y (ho.below hY (Nat.le_refl _)) hz hb
  have HX0 := hide ((Below.refl w.heap.size w).alloc (Nat.le_refl _) (.cells #[.string xn, .int .i64 xl, .int .i64 xh, .int .i64 xs, .int .i64 xe] 37))
  have HK0 := hide (Cls.new w 37 #[.string xn, .int .i64 xl, .int .i64 xh, .int .i64 xs, .int .i64 xe])
  have HAw := hide (awake16_at (w.alloc (.cells #[.string xn, .int .i64 xl, .int .i64 xh, .int .i64 xs, .int .i64 xe] 37)))
  clear ho hz hb
  go_enter Try.func8, Try.ntmps8
  have HC1 := hide (unhide HAw)
  go_wp2_with fail
  refine (unhide HC1).mono ?_
  rintro y w1 ⟨rfl, x1⟩
  dsimp only
  have HX1 := hide ((unhide HX0).trans (x1.mono (unhide HX0).size))
  have HK1 := hide ((unhide HK0).below x1 (unhide HK0).lt)
  clear HC1 HX0 HK0 x1 HAw
  have HC2 := hide (unhide HSet w1)
  have d0 := (unhide HK1).cell 0
  have d1 := (unhide HK1).cell 1
  have d2 := (unhide HK1).cell 2
  have d3 := (unhide HK1).cell 3
  have d4 := (unhide HK1).cell 4
  simp only [List.getElem?_toArray, List.getElem?_cons_zero, List.getElem?_cons_succ] at d0 d1 d2 d3 d4
  go_wp2_with fail
  refine (unhide HC2).mono ?_
  rintro y w2 ⟨rfl, x2⟩
  dsimp only
  have HX2 := hide ((unhide HX1).trans (x2.mono (unhide HX1).size))
  have HK2 := hide ((unhide HK1).below x2 (unhide HK1).lt)
  clear HC2 HX1 HK1 x2 d0 d1 d2 d3 d4 HSet
  have HC3 := hide (GDropN_at xn w2)
  have d0 := (unhide HK2).cell 0
  simp only [List.getElem?_toArray, List.getElem?_cons_zero] at d0
  go_wp2_with fail
  refine (unhide HC3).mono ?_
  rintro y w3 ⟨rfl, x3⟩
  dsimp only
  have HX3 := hide ((unhide HX2).trans (x3.mono (unhide HX2).size))
  have HK3 := hide ((unhide HK2).below x3 (unhide HK2).lt)
  clear HC3 HX2 HK2 x3 d0
  have HC4 := hide (unhide HCP w3 (unhide HX3))
  go_wp2_with fail
  refine (unhide HC4).mono ?_
  rintro y w4 ⟨v4, rfl, _, x4⟩
  dsimp only
  have HX4 := hide ((unhide HX3).trans (x4.mono (unhide HX3).size))
  have HK4 := hide ((unhide HK3).below x4 (unhide HK3).lt)
  clear HC4 HX3 HK3 x4 HCP
  have HC5 := hide (GBehN_at v4 w4)
  go_wp2_with fail
  refine (unhide HC5).mono ?_
  rintro y w5 ⟨rfl, x5⟩
  dsimp only
  have HX5 := hide ((unhide HX4).trans (x5.mono (unhide HX4).size))
  have HK5 := hide ((unhide HK4).below x5 (unhide HK4).lt)
  clear HC5 HX4 HK4 x5 
  have HC6 := hide (GGetN_at xn w5)
  have d0 := (unhide HK5).cell 0
  simp only [List.getElem?_toArray, List.getElem?_cons_zero] at d0
  go_wp2_with fail
  refine (unhide HC6).mono ?_
  rintro y w6 ⟨rfl, x6⟩
  dsimp only
  have HX6 := hide ((unhide HX5).trans (x6.mono (unhide HX5).size))
  have HK6 := hide ((unhide HK5).below x6 (unhide HK5).lt)
  clear HC6 HX5 HK5 x6 d0 
  have b7 := (Below.refl w6.heap.size w6).alloc (Nat.le_refl _) (.cells #[.string ⟨#[]⟩, .int .i64 0, .int .i64 0, .int .i64 0, .int .i64 0] 37)
  have HX7 := hide ((unhide HX6).trans (b7.mono (unhide HX6).size))
  have HK7 := hide ((unhide HK6).below b7 (unhide HK6).lt)
  clear HX6 HK6 b7
  have HC8 := hide (GLenN_at (w6.alloc (.cells #[.string ⟨#[]⟩, .int .i64 0, .int .i64 0, .int .i64 0, .int .i64 0] 37)))
  go_wp2_with fail
  refine (unhide HC8).mono ?_
  rintro y w8 ⟨rfl, x8⟩
  dsimp only
  have HX8 := hide ((unhide HX7).trans (x8.mono (unhide HX7).size))
  have HK8 := hide ((unhide HK7).below x8 (unhide HK7).lt)
  clear HC8 HX7 HK7 x8
  have HC9 := hide (GListN_at w8)
  go_wp2_with fail
  refine (unhide HC9).mono ?_
  rintro y w9 ⟨rfl, x9⟩
  dsimp only
  have HX9 := hide ((unhide HX8).trans (x9.mono (unhide HX8).size))
  have HK9 := hide ((unhide HK8).below x9 (unhide HK8).lt)
  clear HC9 HX8 HK8 x9  
  have HC10 := hide (GOverN_at xl xh w9)
  have d1 := (unhide HK9).cell 1
  have d2 := (unhide HK9).cell 2
  simp only [List.getElem?_toArray, List.getElem?_cons_zero, List.getElem?_cons_succ] at d1 d2
  go_wp2_with fail
  refine (unhide HC10).mono ?_
  rintro y w10 ⟨rfl, x10⟩
  dsimp only
  have HX10 := hide ((unhide HX9).trans (x10.mono (unhide HX9).size))
  have HK10 := hide ((unhide HK9).below x10 (unhide HK9).lt)
  clear HC10 HX9 HK9 x10 d1 d2 
  have HC11 := hide (GCovN_at w10)
  go_wp2_with fail
  refine (unhide HC11).mono ?_
  rintro y w11 ⟨rfl, x11⟩
  dsimp only
  have HX11 := hide ((unhide HX10).trans (x11.mono (unhide HX10).size))
  have HK11 := hide ((unhide HK10).below x11 (unhide HK10).lt)
  clear HC11 HX10 HK10 x11  
  go_wp2_with fail
  refine bodyPost_ret (results_tmp rfl _ _ _) rfl ⟨rfl, unhide HX11⟩
end Go.Proofs.Ytohmgipmffblaaa
end
