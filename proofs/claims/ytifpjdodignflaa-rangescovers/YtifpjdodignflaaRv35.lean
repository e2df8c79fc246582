/- Layer 16: Behind. -/
import Derived.Test.YtifpjdodignflaaRv34

namespace Go.Proofs.Ytifpjdodignflaa
open Go.ChangeShapes Go.WideShapes Go.ChangeAt Go.RowKit
attribute [local go_sem] Oper.semAt_some

theorem go_len (d : List Dop) (S : List Rg) : (goG d S).length ≤ S.length := by
  unfold goG
  rw [List.length_map]
  exact Nat.le_trans (List.length_filter_le _ _) (by simp)
open Go.Sort in
theorem strs_holds {X : World} {B g c : Nat} {l : List ByteArray} (h : X.ownsRow B 9 1 (.slice (some ⟨g, 0, none⟩) l.length c) l.length (strsV l)) : Holds encStr X g 0 (l.map (·.data.toList)).toArray := fun j hj => by
  have hj' : j < l.length := by simpa using hj
  rcases h.2 with ⟨e, _⟩ | ⟨g', c', cur, e, _, hg, _, _, hs, ht⟩
  · cases e
  · cases e
    refine ⟨?_, by simp [World.frozen?, hg]⟩
    have h1 : cur.toList[j]? = (strsV l)[j]? := by
      rw [← ht, List.getElem?_take_of_lt (by omega)]
    have h2 : (strsV l)[j]? = some (.string l[j]) := by simp [strsV, hj']
    rw [Nat.zero_add]
    have h3 : X.cell? ⟨g, j, none⟩ = cur[j]? := by simp [World.cell?, hg]
    rw [h3, ← Array.getElem?_toList, h1, h2]
    simp [hj']
open Go.Sort in
theorem sort_blocks {α : Type} [Inhabited α] (enc : α → Value) (w : World) (blk off n : Nat) (dk : Array α) (os : Array Obj) : (∀ N, N ≤ blk → N ≤ w.heap.size → Go.RowKit.Below N w (grow (putRow enc (Sort.ahead w n) blk off dk) os)) ∧ ∀ k, k < w.heap.size → k ≠ blk → (grow (putRow enc (Sort.ahead w n) blk off dk) os).heap[k]? = w.heap[k]? := by
  have hk : ∀ k, k < w.heap.size → k ≠ blk → (grow (putRow enc (Sort.ahead w n) blk off dk) os).heap[k]? = w.heap[k]? := fun k h1 h2 => by
    show (w.heap.modify blk _ ++ os)[k]? = _
    rw [Array.getElem?_append_left (by rw [Array.size_modify]; exact h1), Array.getElem?_modify, if_neg (Ne.symm h2)]
  refine ⟨fun N hN hw => ⟨rfl, rfl, rfl, ?_, fun k h => hk k (by omega) (by omega)⟩, hk⟩
  show _ ≤ (w.heap.modify blk _ ++ os).size
  rw [Array.size_append, Array.size_modify]; omega
set_option maxRecDepth 100000 in
theorem GSort_at (w : World) (B : Nat) (a : Option Addr) (c : Nat) (l : List ByteArray) (h : w.ownsRow B 9 1 (.slice a l.length c) l.length (strsV l)) (hl : l.length ≤ 1048576) (hB : B ≤ w.heap.size) :
    Calls Try.prog 37 #[.slice a l.length c] w fun y w' => y = .returned (.tuple #[]) ∧ Below B w w' ∧ w.heap.size ≤ w'.heap.size ∧ ∀ k, k < w.heap.size → (∀ cs t mk, w.heap[k]? ≠ some (.cells cs t mk)) → w'.heap[k]? = w.heap[k]? := by
  by_cases h0 : l = []
  · subst h0
    exact (Try.slices_Sort_string_none a c w).mono fun y w' ⟨e, e2⟩ => by
      subst e2
      exact ⟨e, Below.refl _ _, Nat.le_refl _, fun _ _ _ => rfl⟩
  · obtain ⟨g, c', e, _, hlt⟩ := h.form (List.length_pos_iff.2 h0)
    cases e
    have hH := strs_holds h
    have := Try.slices_Sort_string g 0 c (l.map (·.data.toList)) w hH hlt (by rw [List.length_map]; omega)
    rw [List.length_map] at this
    refine this.mono fun y w' ⟨e, n, os, e2⟩ => ?_
    subst e2
    obtain ⟨b1, b2⟩ := sort_blocks encStr w g 0 n ((l.map (·.data.toList)).mergeSort fun x y => decide (x ≤ y)).toArray os
    have hgB := (rowD_block h (G := g) rfl).1
    refine ⟨e, b1 B hgB hB, (b1 B hgB hB).size, fun k hk hc => b2 k hk fun eq => ?_⟩
    obtain ⟨_, cur, hcur⟩ := rowD_block h (G := g) rfl
    rw [eq] at hc
    exact hc _ _ _ hcur
set_option maxRecDepth 100000 in
set_option maxHeartbeats 4000000 in
theorem GBeh_at (g : Nat) (n : Int) (L : List Rg) (a : Option Addr) (c : Nat) (d : List Dop) (X : World) (h : IsRs X g n L) (ho : IsO X a d) (hl : d.length ≤ 4611686018427387904) (hv : valB d = true) (hf : (frD d : Int) = n) (hN : (L.map (·.n)).Nodup) (hL : L.length ≤ 1024) :
    Calls Try.prog 15 #[.pointer (some ⟨g, 0, none⟩), .slice a d.length c] X fun y X' => ∃ g' S ag cg, y = .returned (.tuple #[.pointer (some ⟨g', 0, none⟩), .slice ag (goG d S).length cg, .int .i64 0]) ∧ S.Perm L ∧ IsRs X' g' (toD d) (kpG d S) ∧ Below X.heap.size X X' := by
  have HLN := hide (Lens_at a c d X ho hl)
  unfold lensV at HLN
  rw [hv] at HLN
  simp only [if_true] at HLN
  have HMV := hide fun (Y : World) (hY : Below X.heap.size X Y) (m : Rg) => GMov_at a c d m Y (ho.below hY (Nat.le_refl _)) hl
  obtain ⟨r, kg0, mg0⟩ := h.c
  have hrX : r < X.heap.size := mg0.lt
  have HS := hide (And.intro kg0 mg0)
  have HN := hide (And.intro hN hL)
  have t1 : ((frD d : Int) != n) = false := by rw [hf]; simp
  have t1' : ((frD d : Int) == n) = true := by rw [hf]; simp
  clear h ho hl hv hf hN hL kg0 mg0
  generalize (toD d : Int) = TD at *
  generalize (frD d : Int) = FD at *
  go_enter Try.func15, Try.ntmps15
  go_wp2_with fail
  refine (unhide HLN).mono ?_
  rintro y w1 ⟨rfl, x1⟩
  dsimp only
  have kg := (unhide HS).1.below x1 (unhide HS).1.lt
  have mg := (unhide HS).2.below x1 (Nat.le_refl _)
  have c0 := kg.cell 0
  have c1 := kg.cell 1
  simp only [List.getElem?_toArray, List.getElem?_cons_zero, List.getElem?_cons_succ] at c0 c1
  obtain ⟨es, clock, hh, hz⟩ := mg.len
  have RL := run_len_map (P := Try.prog) (w := w1) 65 3 r es clock (by kernel_rfl) hh
  simp only [goInt] at RL
  have RM := run_makeMapN w1 es.size
  have b2 := (Below.refl w1.heap.size w1).alloc (Nat.le_refl _) (.map #[] 0)
  have kg2 := kg.below b2 kg.lt
  have c2 := kg2.cell 1
  simp only [List.getElem?_toArray, List.getElem?_cons_zero, List.getElem?_cons_succ] at c2
  obtain ⟨o, RR, it⟩ := ItG.start (P := Try.prog) (w1.alloc (.map #[] 0)) Try.underlying65 (mg.below b2 (Nat.le_refl _))
  have b3 := (Below.refl (w1.alloc (.map #[] 0)).heap.size (w1.alloc (.map #[] 0))).alloc (Nat.le_refl _) o
  have hj : GbJ X ((w1.alloc (.map #[] 0)).alloc o) (w1.alloc (.map #[] 0)).heap.size w1.heap.size r d L [] [] (.slice none 0 0) := ⟨it, (IsRp.new w1).below b3 (Nat.le_refl _), World.ownsRow_nil _ _ _ _, x1.trans ((b2.mono x1.size).trans (b3.mono (Nat.le_trans x1.size b2.size))), Nat.le_trans x1.size b2.size, x1.size⟩
  rw [World.size_alloc] at RR hj
  have HJ := hide hj
  have HKG := hide (kg2.below b3 kg2.lt)
  clear HLN hh hz kg mg b2 kg2 it b3 hj x1 HS
  go_wp2_with fail
  generalize hri : w1.heap.size + 1 = ri at *
  generalize w1.heap.size = r2 at *
  go_loopw [11, 12, 13] (fun v11 v12 v13 wx => ((∃ z, v12 = z) ∧ (∃ z, v13 = z)) ∧ Hid (∃ S, GbJ X wx ri r2 r d L S S v11)) (fun _ _ _ wx => leftN wx r ri)
  case atStart => exact ⟨⟨⟨_, rfl⟩, ⟨_, rfl⟩⟩, hide ⟨[], unhide HJ⟩⟩
  case round =>
    clear HJ
    obtain ⟨⟨⟨z1, rfl⟩, ⟨z2, rfl⟩⟩, HI⟩ := hrel
    obtain ⟨S, hJ⟩ := unhide HI
    rcases hJ.next 0 with ⟨hp, hr⟩ | ⟨m, T, X', hp, hr, he, hJ', hlt⟩
    · obtain ⟨ag, cg, hv11, _⟩ := rowD_form hJ.go
      subst hv11
      have hgl : (goG d S).length ≤ 1048576 := by
        have h1 := go_len d S
        have h2 := hp.length_eq
        have h3 := (unhide HN).2
        omega
      have HC := hide (GSort_at wr X.heap.size ag cg (goG d S) hJ.go hgl hJ.dd.size)
      have HJ := hide hJ
      have HP := hide hp
      clear HI hJ hp hgl
      go_wp2_with fail
      refine (unhide HC).mono ?_
      rintro y w5 ⟨rfl, x5, _, xk⟩
      dsimp only
      have m5 : IsRp w5 r2 (kpG d S) := (unhide HJ).mp.same (xk r2 (unhide HJ).mp.lt fun cs t mk hq => by
        obtain ⟨es', cl', h1, _⟩ := (unhide HJ).mp
        rw [h1] at hq; cases hq)
      have hb5 := (unhide HJ).dd.trans x5
      have k6 := Cls.new w5 67 #[.int .i64 TD, .map (some r2)]
      have m6 : IsRp (w5.alloc (.cells #[.int .i64 TD, .map (some r2)] 67)) r2 (kpG d S) := m5.same (heap_alloc_old _ _ m5.lt)
      have HR : Hid (IsRs (w5.alloc (.cells #[.int .i64 TD, .map (some r2)] 67)) w5.heap.size TD (kpG d S)) := hide ⟨_, k6, m6⟩
      have HB6 := hide (hb5.alloc hb5.size (.cells #[.int .i64 TD, .map (some r2)] 67))
      clear HC HJ m5 hb5 k6 m6 x5 xk
      go_wp2_with fail
      refine bodyPost_ret (results_tmp3 rfl _ _) rfl ?_
      exact ⟨_, S, ag, cg, rfl, unhide HP, unhide HR, unhide HB6⟩
    · obtain ⟨mn, ml, mh, ms, me⟩ := m
      unfold rgV at hr he
      dsimp only at hr he
      have b1 := (Below.refl X'.heap.size X').alloc (Nat.le_refl _) (.cells #[.string mn, .int .i64 ml, .int .i64 mh, .int .i64 ms, .int .i64 me] 37)
      have k1 := Cls.new X' 37 #[.string mn, .int .i64 ml, .int .i64 mh, .int .i64 ms, .int .i64 me]
      have d0 := k1.cell 0
      have d1 := k1.cell 1
      have d2 := k1.cell 2
      have d3 := k1.cell 3
      have d4 := k1.cell 4
      simp only [List.getElem?_toArray, List.getElem?_cons_zero, List.getElem?_cons_succ] at d0 d1 d2 d3 d4
      have HC := hide (unhide HMV _ (hJ'.dd.trans (b1.mono hJ'.dd.size)) ⟨mn, ml, mh, ms, me⟩)
      unfold rgV at HC
      dsimp only at HC
      have HJ' := hide hJ'
      have HP := hide (And.intro hp hlt)
      have HB1 := hide b1
      have HK1 := hide k1
      clear HI hJ hp hJ' hlt b1 k1
      go_wp2_with fail
      refine (unhide HC).mono ?_
      rintro y w2 ⟨rfl, x2⟩
      dsimp only [mvG]
      have hB2 := (unhide HB1).trans (x2.mono (unhide HB1).size)
      have k2 := (unhide HK1).below x2 (unhide HK1).lt
      obtain ⟨V1, hV1⟩ : ∃ V1, V1 = plV d ml ms := ⟨_, rfl⟩
      obtain ⟨V2, hV2⟩ : ∃ V2, V2 = plV d mh me := ⟨_, rfl⟩
      rw [← hV1, ← hV2]
      have HV := hide (And.intro hV1 hV2)
      have g0 := k2.cell 0
      have g1 := k2.cell 1
      have g2 := k2.cell 2
      have g3 := k2.cell 3
      have g4 := k2.cell 4
      have z0 := k2.frozen 0
      have z1 := k2.frozen 1
      have z2 := k2.frozen 2
      have z3 := k2.frozen 3
      have z4 := k2.frozen 4
      have k9 := ((((k2.set 0 (.string mn)).set 1 (.int .i64 V1)).set 2 (.int .i64 V2)).set 3 (.int .i64 ms)).set 4 (.int .i64 me)
      have hB9 := ((((hB2.setCell (p := ⟨X'.heap.size, 0, none⟩) (Nat.le_refl _) (.string mn)).setCell (p := ⟨X'.heap.size, 1, none⟩) (Nat.le_refl _) (.int .i64 V1)).setCell (p := ⟨X'.heap.size, 2, none⟩) (Nat.le_refl _) (.int .i64 V2)).setCell (p := ⟨X'.heap.size, 3, none⟩) (Nat.le_refl _) (.int .i64 ms)).setCell (p := ⟨X'.heap.size, 4, none⟩) (Nat.le_refl _) (.int .i64 me)
      simp only [List.getElem?_toArray, List.getElem?_cons_zero, List.getElem?_cons_succ, List.setIfInBounds_toArray, List.set_cons_zero, List.set_cons_succ] at g0 g1 g2 g3 g4 k9
      have HJ9 := hide ((unhide HJ').on hB9)
      have HL9 := hide (leftN_same (hB9.block ri (unhide HJ').it.lt.1) (hB9.block r (unhide HJ').it.lt.2))
      have HK9 := hide k9
      clear HC HB1 HK1 x2 hB2 k2 hV1 hV2 k9 hB9 HJ' d0 d1 d2 d3 d4 hr he
      go_upto_region 14 with fail
      clear g0 g1 g2 g3 g4 z0 z1 z2 z3 z4
      generalize ((((w2.setCell ⟨X'.heap.size, 0, none⟩ (.string mn)).setCell ⟨X'.heap.size, 1, none⟩ (.int .i64 V1)).setCell ⟨X'.heap.size, 2, none⟩ (.int .i64 V2)).setCell ⟨X'.heap.size, 3, none⟩ (.int .i64 ms)).setCell ⟨X'.heap.size, 4, none⟩ (.int .i64 me) = w9 at *
      have d0 := (unhide HK9).cell 0
      have d1 := (unhide HK9).cell 1
      have d2 := (unhide HK9).cell 2
      have d3 := (unhide HK9).cell 3
      have d4 := (unhide HK9).cell 4
      simp only [List.getElem?_toArray, List.getElem?_cons_zero, List.getElem?_cons_succ] at d0 d1 d2 d3 d4
      clear HK9
      by_cases hk : V1 < V2
      · have t3 : decide (V1 < V2) = true := decide_eq_true hk
        have hk' : (mvG d ⟨mn, ml, mh, ms, me⟩).lo < (mvG d ⟨mn, ml, mh, ms, me⟩).hi := by
          show plV d ml ms < plV d mh me
          rw [← (unhide HV).1, ← (unhide HV).2]; exact hk
        obtain ⟨o, RU, hJ2, hl2⟩ := (unhide HJ9).put (unhide HP).1 (unhide HN).1 hrX hk'
        unfold rgV mvG at RU
        dsimp only at RU
        rw [← (unhide HV).1, ← (unhide HV).2] at RU
        have HJ2 := hide hJ2
        have HM2 := hide (hl2.trans (unhide HL9))
        clear hk hk' hJ2 hl2 HJ9 HL9 HV
        generalize ({ w9 with heap := w9.heap.setIfInBounds r2 o } : World) = wA at *
        go_wp2_with fail
        go_roundw
        case rel => exact ⟨⟨⟨_, rfl⟩, ⟨_, rfl⟩⟩, hide ⟨_, unhide HJ2⟩⟩
        case measure => rw [unhide HM2]; exact (unhide HP).2
      · have t3 : decide (V1 < V2) = false := decide_eq_false hk
        have hk' : ¬ (mvG d ⟨mn, ml, mh, ms, me⟩).lo < (mvG d ⟨mn, ml, mh, ms, me⟩).hi := by
          show ¬ plV d ml ms < plV d mh me
          rw [← (unhide HV).1, ← (unhide HV).2]; exact hk
        have hgl : (goG d S).length ≤ 4398046511104 := by
          have h1 := go_len d S
          have h2 := (unhide HP).1.length_eq
          have h3 := (unhide HN).2
          rw [List.length_append] at h2
          omega
        obtain ⟨v', W', ra, hJ2, hl2⟩ := (unhide HJ9).goes hrX hk' hgl
        dsimp only at ra
        have R := hide ra
        have HJ2 := hide hJ2
        have HM2 := hide (hl2.trans (unhide HL9))
        clear hk hk' hJ2 hl2 HJ9 HL9 HV hgl ra
        go_wp2_with (at_builtin; refine wpList_append_known rfl _ _ 49 49 rfl _ _ rfl rfl _ _ (unhide R) ?_; clear R)
        go_roundw
        case rel => exact ⟨⟨⟨_, rfl⟩, ⟨_, rfl⟩⟩, hide ⟨_, unhide HJ2⟩⟩
        case measure => rw [unhide HM2]; exact (unhide HP).2
end Go.Proofs.Ytifpjdodignflaa
