/- Layer 16: names in order; Behind with the names that went, sorted (written by wip/tools/ryr.py). · Layer 16, plain: the document's Behind: ranges put one by one, names put one by one. · Layer 16, the document's: what Behind's loop keeps; three appends of names. -/
import Derived.Test.YtifpjdodignflaaRp37
import Derived.Deep.AppendSrc

section
namespace Go.Proofs.Ytifpjdodignflaa
open Go.ChangeShapes Go.WideShapes Go.ChangeAt Go.RowKit
attribute [local go_sem] Oper.semAt_some

theorem bless_lt : ∀ x y : List UInt8, Op.bytesLess x y = true ↔ x < y
  | [], [] => by simp [Op.bytesLess]
  | _ :: _, [] => by simp [Op.bytesLess]
  | [], _ :: _ => by simp [Op.bytesLess]
  | a :: x, b :: y => by
    simp only [Op.bytesLess, Bool.or_eq_true, Bool.and_eq_true, decide_eq_true_eq, beq_iff_eq, List.cons_lt_cons_iff, bless_lt x y]
/-- names that don't fall -/
def SrtN (g : List ByteArray) : Prop := g.Pairwise fun a b => Op.bytesLess b.toList a.toList = false
theorem srtN_one {A B : List ByteArray} (hp : A.Perm B) (ha : SrtN A) (hb : SrtN B) : A = B :=
  List.Perm.eq_of_pairwise (fun _ _ _ _ h1 h2 => ba_toList (bless_tri _ _ h2 h1)) ha hb hp
theorem srtN_merge (l : List ByteArray) : ∃ E : List ByteArray, (l.map (·.data.toList)).mergeSort (fun x y => decide (x ≤ y)) = E.map (·.data.toList) ∧ E.Perm l ∧ SrtN E := by
  refine ⟨l.mergeSort fun x y => decide (x.data.toList ≤ y.data.toList), ?_, List.mergeSort_perm _ _, ?_⟩
  · rw [List.map_mergeSort]
    intro a _ b _
    rfl
  · have h := List.pairwise_mergeSort (le := fun x y : ByteArray => decide (x.data.toList ≤ y.data.toList)) (fun a b c h1 h2 => decide_eq_true (List.le_trans (of_decide_eq_true h1) (of_decide_eq_true h2))) (fun a b => by
      rcases List.le_total a.data.toList b.data.toList with h | h
      · simp [h]
      · simp [h]) l
    refine h.imp fun {a b} h => ?_
    have h1 := of_decide_eq_true h
    cases hc : Op.bytesLess b.toList a.toList with
    | false => rfl
    | true =>
      have h2 := (bless_lt _ _).1 hc
      rw [Lib.toList_data, Lib.toList_data] at h2
      exact absurd h2 (List.not_lt.2 h1)
open Go.Sort in
theorem strs_sort_own {w : World} {B g c : Nat} {l : List ByteArray} (h : w.ownsRow B 9 1 (.slice (some ⟨g, 0, none⟩) l.length c) l.length (strsV l)) (E : List ByteArray) (hl : E.length = l.length) (n : Nat) (os : Array Obj) :
    (grow (putRow encStr (Sort.ahead w n) g 0 (E.map (·.data.toList)).toArray) os).ownsRow B 9 1 (.slice (some ⟨g, 0, none⟩) l.length c) l.length (strsV E) := by
  rcases h.2 with ⟨e1, _⟩ | ⟨g', c', cur, e1, hb, hg, hn, hm, hs, ht⟩
  · cases e1
  · cases e1
    refine ⟨by simp [strsV, hl], .inr ⟨g, c, putCells encStr 0 (E.map (·.data.toList)).toArray cur, rfl, hb, ?_, hn, hm, ?_, ?_⟩⟩
    · have hlt := (Array.getElem?_eq_some_iff.1 hg).1
      show (w.heap.modify g _ ++ os)[g]? = _
      rw [Array.getElem?_append_left (by rw [Array.size_modify]; exact hlt), Array.getElem?_modify, if_pos rfl, hg]; rfl
    · simp only [putCells, Array.size_mapIdx]; exact hs
    · have hnk : l.length * 1 ≤ cur.size := by rw [hs]; exact Nat.mul_le_mul_right _ hn
      apply List.ext_getElem?
      intro i
      rcases Nat.lt_or_ge i l.length with hi | hi
      · rw [List.getElem?_take_of_lt (by omega), Array.getElem?_toList]
        have hic : i < cur.size := by omega
        simp only [putCells, Array.getElem?_mapIdx, Array.getElem?_eq_getElem hic, Option.map_some]
        rw [if_pos ⟨Nat.zero_le _, by simp [hl, hi]⟩]
        simp [strsV, encStr, hl, hi]
      · rw [List.getElem?_take_eq_none (by omega), List.getElem?_eq_none (by simp [strsV]; omega)]
set_option maxRecDepth 100000 in
theorem GSort2_at (w : World) (B : Nat) (a : Option Addr) (c : Nat) (l : List ByteArray) (h : w.ownsRow B 9 1 (.slice a l.length c) l.length (strsV l)) (hl : l.length ≤ 1048576) (hB : B ≤ w.heap.size) :
    Calls Try.prog 37 #[.slice a l.length c] w fun y w' => y = .returned (.tuple #[]) ∧ ∃ E : List ByteArray, E.Perm l ∧ SrtN E ∧ w'.ownsRow B 9 1 (.slice a l.length c) l.length (strsV E) ∧ Below B w w' ∧ w.heap.size ≤ w'.heap.size ∧ ∀ k, k < w.heap.size → (∀ cs t mk, w.heap[k]? ≠ some (.cells cs t mk)) → w'.heap[k]? = w.heap[k]? := by
  by_cases h0 : l = []
  · subst h0
    exact (Try.slices_Sort_string_none a c w).mono fun y w' ⟨e, e2⟩ => by
      subst e2
      exact ⟨e, [], List.Perm.refl _, List.Pairwise.nil, h, Below.refl _ _, Nat.le_refl _, fun _ _ _ => rfl⟩
  · obtain ⟨g, c', e, _, hlt⟩ := h.form (List.length_pos_iff.2 h0)
    cases e
    have hH := strs_holds h
    have := Try.slices_Sort_string g 0 c (l.map (·.data.toList)) w hH hlt (by rw [List.length_map]; omega)
    rw [List.length_map] at this
    refine this.mono fun y w' ⟨e, n, os, e2⟩ => ?_
    subst e2
    obtain ⟨E, e3, hp, hs⟩ := srtN_merge l
    rw [e3]
    obtain ⟨b1, b2⟩ := sort_blocks encStr w g 0 n (E.map (·.data.toList)).toArray os
    have hgB := (rowD_block h (G := g) rfl).1
    refine ⟨e, E, hp, hs, strs_sort_own h E hp.length_eq n os, b1 B hgB hB, (b1 B hgB hB).size, fun k hk hc => b2 k hk fun eq => ?_⟩
    obtain ⟨_, cur, hcur⟩ := rowD_block h (G := g) rfl
    rw [eq] at hc
    exact hc _ _ _ hcur
set_option maxRecDepth 100000 in
set_option maxHeartbeats 4000000 in
theorem GBeh2_at (g : Nat) (n : Int) (L : List Rg) (a : Option Addr) (c : Nat) (d : List Dop) (X : World) (h : IsRs X g n L) (ho : IsO X a d) (hl : d.length ≤ 4611686018427387904) (hv : valB d = true) (hf : (frD d : Int) = n) (hN : (L.map (·.n)).Nodup) (hL : L.length ≤ 1024) :
    Calls Try.prog 15 #[.pointer (some ⟨g, 0, none⟩), .slice a d.length c] X fun y X' => ∃ g' S ag cg, y = .returned (.tuple #[.pointer (some ⟨g', 0, none⟩), .slice ag (goG d S).length cg, .int .i64 0]) ∧ S.Perm L ∧ IsRs X' g' (toD d) (kpG d S) ∧ Below X.heap.size X X' ∧ ∃ G : List ByteArray, G.Perm (goG d S) ∧ SrtN G ∧ X'.ownsRow X.heap.size 9 1 (.slice ag (goG d S).length cg) (goG d S).length (strsV G) := by
  have HLN := hide (Lens_at a c d X ho hl)
  unfold lensV at HLN
  rw [hv] at HLN
  simp only [if_true] at HLN
  have HMV := hide fun (Y : World) (hY : Below X.heap.size X Y) (m : Rg) => GMov_at a c d m Y (ho.below hY (Nat.le_refl _)) hl
  obtain ⟨r, kg0, mg0⟩ := h.c
  have hrX : r < X.heap.size := mg0.lt
  have HS := hide (And.intro kg0 mg0)
  have HN := hide (And.intro hN hL)
  have t1 : ((frD d : Int) != n) = false := by rw [hf]; simp
  have t1' : ((frD d : Int) == n) = true := by rw [hf]; simp
  clear h ho hl hv hf hN hL kg0 mg0
  generalize (toD d : Int) = TD at *
  generalize (frD d : Int) = FD at *
  go_enter Try.func15, Try.ntmps15
  go_wp2_with fail
  refine (unhide HLN).mono ?_
  rintro y w1 ⟨rfl, x1⟩
  dsimp only
  have kg := (unhide HS).1.below x1 (unhide HS).1.lt
  have mg := (unhide HS).2.below x1 (Nat.le_refl _)
  have c0 := kg.cell 0
  have c1 := kg.cell 1
  simp only [List.getElem?_toArray, List.getElem?_cons_zero, List.getElem?_cons_succ] at c0 c1
  obtain ⟨es, clock, hh, hz⟩ := mg.len
  have RL := run_len_map (P := Try.prog) (w := w1) 65 3 r es clock (by kernel_rfl) hh
  simp only [goInt] at RL
  have RM := run_makeMapN w1 es.size
  have b2 := (Below.refl w1.heap.size w1).alloc (Nat.le_refl _) (.map #[] 0)
  have kg2 := kg.below b2 kg.lt
  have c2 := kg2.cell 1
  simp only [List.getElem?_toArray, List.getElem?_cons_zero, List.getElem?_cons_succ] at c2
  obtain ⟨o, RR, it⟩ := ItG.start (P := Try.prog) (w1.alloc (.map #[] 0)) Try.underlying65 (mg.below b2 (Nat.le_refl _))
  have b3 := (Below.refl (w1.alloc (.map #[] 0)).heap.size (w1.alloc (.map #[] 0))).alloc (Nat.le_refl _) o
  have hj : GbJ X ((w1.alloc (.map #[] 0)).alloc o) (w1.alloc (.map #[] 0)).heap.size w1.heap.size r d L [] [] (.slice none 0 0) := ⟨it, (IsRp.new w1).below b3 (Nat.le_refl _), World.ownsRow_nil _ _ _ _, x1.trans ((b2.mono x1.size).trans (b3.mono (Nat.le_trans x1.size b2.size))), Nat.le_trans x1.size b2.size, x1.size⟩
  rw [World.size_alloc] at RR hj
  have HJ := hide hj
  have HKG := hide (kg2.below b3 kg2.lt)
  clear HLN hh hz kg mg b2 kg2 it b3 hj x1 HS
  go_wp2_with fail
  generalize hri : w1.heap.size + 1 = ri at *
  generalize w1.heap.size = r2 at *
  go_loopw [11, 12, 13] (fun v11 v12 v13 wx => ((∃ z, v12 = z) ∧ (∃ z, v13 = z)) ∧ Hid (∃ S, GbJ X wx ri r2 r d L S S v11)) (fun _ _ _ wx => leftN wx r ri)
  case atStart => exact ⟨⟨⟨_, rfl⟩, ⟨_, rfl⟩⟩, hide ⟨[], unhide HJ⟩⟩
  case round =>
    clear HJ
    obtain ⟨⟨⟨z1, rfl⟩, ⟨z2, rfl⟩⟩, HI⟩ := hrel
    obtain ⟨S, hJ⟩ := unhide HI
    rcases hJ.next 0 with ⟨hp, hr⟩ | ⟨m, T, X', hp, hr, he, hJ', hlt⟩
    · obtain ⟨ag, cg, hv11, _⟩ := rowD_form hJ.go
      subst hv11
      have hgl : (goG d S).length ≤ 1048576 := by
        have h1 := go_len d S
        have h2 := hp.length_eq
        have h3 := (unhide HN).2
        omega
      have HC := hide (GSort2_at wr X.heap.size ag cg (goG d S) hJ.go hgl hJ.dd.size)
      have HJ := hide hJ
      have HP := hide hp
      clear HI hJ hp hgl
      go_wp2_with fail
      refine (unhide HC).mono ?_
      rintro y w5 ⟨rfl, G, pG, sG, oG, x5, _, xk⟩
      dsimp only
      have m5 : IsRp w5 r2 (kpG d S) := (unhide HJ).mp.same (xk r2 (unhide HJ).mp.lt fun cs t mk hq => by
        obtain ⟨es', cl', h1, _⟩ := (unhide HJ).mp
        rw [h1] at hq; cases hq)
      have hb5 := (unhide HJ).dd.trans x5
      have k6 := Cls.new w5 67 #[.int .i64 TD, .map (some r2)]
      have m6 : IsRp (w5.alloc (.cells #[.int .i64 TD, .map (some r2)] 67)) r2 (kpG d S) := m5.same (heap_alloc_old _ _ m5.lt)
      have HR : Hid (IsRs (w5.alloc (.cells #[.int .i64 TD, .map (some r2)] 67)) w5.heap.size TD (kpG d S)) := hide ⟨_, k6, m6⟩
      have HB6 := hide (hb5.alloc hb5.size (.cells #[.int .i64 TD, .map (some r2)] 67))
      have HG : Hid (G.Perm (goG d S) ∧ SrtN G ∧ (w5.alloc (.cells #[.int .i64 TD, .map (some r2)] 67)).ownsRow X.heap.size 9 1 (.slice ag (goG d S).length cg) (goG d S).length (strsV G)) := hide ⟨pG, sG, rowD_below oG ((Below.refl w5.heap.size w5).alloc (Nat.le_refl _) _) (Nat.le_refl _)⟩
      clear HC HJ m5 hb5 k6 m6 x5 xk pG sG oG
      go_wp2_with fail
      refine bodyPost_ret (results_tmp3 rfl _ _) rfl ?_
      exact ⟨_, S, ag, cg, rfl, unhide HP, unhide HR, unhide HB6, G, unhide HG⟩
    · obtain ⟨mn, ml, mh, ms, me⟩ := m
      unfold rgV at hr he
      dsimp only at hr he
      have b1 := (Below.refl X'.heap.size X').alloc (Nat.le_refl _) (.cells #[.string mn, .int .i64 ml, .int .i64 mh, .int .i64 ms, .int .i64 me] 37)
      have k1 := Cls.new X' 37 #[.string mn, .int .i64 ml, .int .i64 mh, .int .i64 ms, .int .i64 me]
      have d0 := k1.cell 0
      have d1 := k1.cell 1
      have d2 := k1.cell 2
      have d3 := k1.cell 3
      have d4 := k1.cell 4
      simp only [List.getElem?_toArray, List.getElem?_cons_zero, List.getElem?_cons_succ] at d0 d1 d2 d3 d4
      have HC := hide (unhide HMV _ (hJ'.dd.trans (b1.mono hJ'.dd.size)) ⟨mn, ml, mh, ms, me⟩)
      unfold rgV at HC
      dsimp only at HC
      have HJ' := hide hJ'
      have HP := hide (And.intro hp hlt)
      have HB1 := hide b1
      have HK1 := hide k1
      clear HI hJ hp hJ' hlt b1 k1
      go_wp2_with fail
      refine (unhide HC).mono ?_
      rintro y w2 ⟨rfl, x2⟩
      dsimp only [mvG]
      have hB2 := (unhide HB1).trans (x2.mono (unhide HB1).size)
      have k2 := (unhide HK1).below x2 (unhide HK1).lt
      obtain ⟨V1, hV1⟩ : ∃ V1, V1 = plV d ml ms := ⟨_, rfl⟩
      obtain ⟨V2, hV2⟩ : ∃ V2, V2 = plV d mh me := ⟨_, rfl⟩
      rw [← hV1, ← hV2]
      have HV := hide (And.intro hV1 hV2)
      have g0 := k2.cell 0
      have g1 := k2.cell 1
      have g2 := k2.cell 2
      have g3 := k2.cell 3
      have g4 := k2.cell 4
      have z0 := k2.frozen 0
      have z1 := k2.frozen 1
      have z2 := k2.frozen 2
      have z3 := k2.frozen 3
      have z4 := k2.frozen 4
      have k9 := ((((k2.set 0 (.string mn)).set 1 (.int .i64 V1)).set 2 (.int .i64 V2)).set 3 (.int .i64 ms)).set 4 (.int .i64 me)
      have hB9 := ((((hB2.setCell (p := ⟨X'.heap.size, 0, none⟩) (Nat.le_refl _) (.string mn)).setCell (p := ⟨X'.heap.size, 1, none⟩) (Nat.le_refl _) (.int .i64 V1)).setCell (p := ⟨X'.heap.size, 2, none⟩) (Nat.le_refl _) (.int .i64 V2)).setCell (p := ⟨X'.heap.size, 3, none⟩) (Nat.le_refl _) (.int .i64 ms)).setCell (p := ⟨X'.heap.size, 4, none⟩) (Nat.le_refl _) (.int .i64 me)
      simp only [List.getElem?_toArray, List.getElem?_cons_zero, List.getElem?_cons_succ, List.setIfInBounds_toArray, List.set_cons_zero, List.set_cons_succ] at g0 g1 g2 g3 g4 k9
      have HJ9 := hide ((unhide HJ').on hB9)
      have HL9 := hide (leftN_same (hB9.block ri (unhide HJ').it.lt.1) (hB9.block r (unhide HJ').it.lt.2))
      have HK9 := hide k9
      clear HC HB1 HK1 x2 hB2 k2 hV1 hV2 k9 hB9 HJ' d0 d1 d2 d3 d4 hr he
      go_upto_region 14 with fail
      clear g0 g1 g2 g3 g4 z0 z1 z2 z3 z4
      generalize ((((w2.setCell ⟨X'.heap.size, 0, none⟩ (.string mn)).setCell ⟨X'.heap.size, 1, none⟩ (.int .i64 V1)).setCell ⟨X'.heap.size, 2, none⟩ (.int .i64 V2)).setCell ⟨X'.heap.size, 3, none⟩ (.int .i64 ms)).setCell ⟨X'.heap.size, 4, none⟩ (.int .i64 me) = w9 at *
      have d0 := (unhide HK9).cell 0
      have d1 := (unhide HK9).cell 1
      have d2 := (unhide HK9).cell 2
      have d3 := (unhide HK9).cell 3
      have d4 := (unhide HK9).cell 4
      simp only [List.getElem?_toArray, List.getElem?_cons_zero, List.getElem?_cons_succ] at d0 d1 d2 d3 d4
      clear HK9
      by_cases hk : V1 < V2
      · have t3 : decide (V1 < V2) = true := decide_eq_true hk
        have hk' : (mvG d ⟨mn, ml, mh, ms, me⟩).lo < (mvG d ⟨mn, ml, mh, ms, me⟩).hi := by
          show plV d ml ms < plV d mh me
          rw [← (unhide HV).1, ← (unhide HV).2]; exact hk
        obtain ⟨o, RU, hJ2, hl2⟩ := (unhide HJ9).put (unhide HP).1 (unhide HN).1 hrX hk'
        unfold rgV mvG at RU
        dsimp only at RU
        rw [← (unhide HV).1, ← (unhide HV).2] at RU
        have HJ2 := hide hJ2
        have HM2 := hide (hl2.trans (unhide HL9))
        clear hk hk' hJ2 hl2 HJ9 HL9 HV
        generalize ({ w9 with heap := w9.heap.setIfInBounds r2 o } : World) = wA at *
        go_wp2_with fail
        go_roundw
        case rel => exact ⟨⟨⟨_, rfl⟩, ⟨_, rfl⟩⟩, hide ⟨_, unhide HJ2⟩⟩
        case measure => rw [unhide HM2]; exact (unhide HP).2
      · have t3 : decide (V1 < V2) = false := decide_eq_false hk
        have hk' : ¬ (mvG d ⟨mn, ml, mh, ms, me⟩).lo < (mvG d ⟨mn, ml, mh, ms, me⟩).hi := by
          show ¬ plV d ml ms < plV d mh me
          rw [← (unhide HV).1, ← (unhide HV).2]; exact hk
        have hgl : (goG d S).length ≤ 4398046511104 := by
          have h1 := go_len d S
          have h2 := (unhide HP).1.length_eq
          have h3 := (unhide HN).2
          rw [List.length_append] at h2
          omega
        obtain ⟨v', W', ra, hJ2, hl2⟩ := (unhide HJ9).goes hrX hk' hgl
        dsimp only at ra
        have R := hide ra
        have HJ2 := hide hJ2
        have HM2 := hide (hl2.trans (unhide HL9))
        clear hk hk' hJ2 hl2 HJ9 HL9 HV hgl ra
        go_wp2_with (at_builtin; refine wpList_append_known rfl _ _ 49 49 rfl _ _ rfl rfl _ _ (unhide R) ?_; clear R)
        go_roundw
        case rel => exact ⟨⟨⟨_, rfl⟩, ⟨_, rfl⟩⟩, hide ⟨_, unhide HJ2⟩⟩
        case measure => rw [unhide HM2]; exact (unhide HP).2
end Go.Proofs.Ytifpjdodignflaa
end

section
namespace Go.Proofs.Ytifpjdodignflaa
open Go.ChangeShapes Go.WideShapes Go.ChangeAt Go.RowKit

/-- where a name comes to stand, from the end -/
def atN (s : ByteArray) (g : List ByteArray) : Nat → Nat
  | 0 => 0
  | k + 1 => if Op.bytesLess s.toList (g.getD k ⟨#[]⟩).toList then atN s g k else k + 1
theorem atN_le (s : ByteArray) (g : List ByteArray) : ∀ k, atN s g k ≤ k
  | 0 => Nat.le_refl _
  | k + 1 => by
    unfold atN
    split
    · exact Nat.le_succ_of_le (atN_le s g k)
    · exact Nat.le_refl _
theorem atN_hi (s : ByteArray) (g : List ByteArray) : ∀ k j, atN s g k ≤ j → j < k → Op.bytesLess s.toList (g.getD j ⟨#[]⟩).toList = true
  | 0, _, _, h => absurd h (Nat.not_lt_zero _)
  | k + 1, j, h1, h2 => by
    unfold atN at h1
    split at h1
    · rename_i hc
      rcases Nat.eq_or_lt_of_le (Nat.le_of_lt_succ h2) with e | hl
      · rw [e]; exact hc
      · exact atN_hi s g k j h1 hl
    · omega
theorem atN_lo (s : ByteArray) (g : List ByteArray) : ∀ k, 0 < atN s g k → Op.bytesLess s.toList (g.getD (atN s g k - 1) ⟨#[]⟩).toList = false
  | 0, h => absurd h (Nat.lt_irrefl _)
  | k + 1, h => by
    unfold atN at h ⊢
    split
    · rename_i hc
      rw [if_pos hc] at h
      exact atN_lo s g k h
    · rename_i hc
      rw [Nat.add_sub_cancel]
      simpa using hc
/-- one more name in its place -/
def insN (s : ByteArray) (g : List ByteArray) : List ByteArray := g.take (atN s g g.length) ++ [s] ++ g.drop (atN s g g.length)
theorem insN_perm (s : ByteArray) (g : List ByteArray) : (insN s g).Perm (s :: g) := by
  unfold insN
  rw [List.append_assoc, List.singleton_append]
  refine List.perm_middle.trans ?_
  rw [List.take_append_drop]
theorem insN_srt (s : ByteArray) (g : List ByteArray) (h : SrtN g) : SrtN (insN s g) := by
  have hle := atN_le s g g.length
  unfold insN
  generalize hk : atN s g g.length = k at *
  have hlo : ∀ a ∈ g.take k, Op.bytesLess s.toList a.toList = false := by
    intro a ha
    obtain ⟨j, hj, e⟩ := List.mem_iff_getElem.1 ha
    rw [List.length_take] at hj
    rw [List.getElem_take] at e
    have h0 : 0 < atN s g g.length := by rw [hk]; omega
    have h1 := atN_lo s g g.length h0
    rw [hk] at h1
    have e1 : g.getD (k - 1) ⟨#[]⟩ = g[k - 1]'(by omega) := by simp [List.getD, show k - 1 < g.length by omega]
    rw [e1] at h1
    rcases Nat.eq_or_lt_of_le (show j ≤ k - 1 by omega) with e2 | hl
    · subst e2; rw [← e]; exact h1
    · have h2 := (List.pairwise_iff_getElem.1 h) j (k - 1) (by omega) (by omega) hl
      rw [← e]
      exact bless_ntrans _ _ _ h1 h2
  have hhi : ∀ b ∈ g.drop k, Op.bytesLess b.toList s.toList = false := by
    intro b hb
    obtain ⟨j, hj, e⟩ := List.mem_iff_getElem.1 hb
    rw [List.length_drop] at hj
    rw [List.getElem_drop] at e
    have h1 := atN_hi s g g.length (k + j) (by rw [hk]; omega) (by omega)
    have e1 : g.getD (k + j) ⟨#[]⟩ = g[k + j]'(by omega) := by simp [List.getD, show k + j < g.length by omega]
    rw [e1, e] at h1
    cases hc : Op.bytesLess b.toList s.toList with
    | false => rfl
    | true => have := bless_trans _ _ _ h1 hc; rw [bless_irrefl] at this; cases this
  have hcut : (g.take k ++ g.drop k).Pairwise fun a b => Op.bytesLess b.toList a.toList = false := by rw [List.take_append_drop]; exact h
  obtain ⟨p1, p2, p3⟩ := List.pairwise_append.1 hcut
  unfold SrtN
  rw [List.append_assoc]
  refine List.pairwise_append.2 ⟨p1, ?_, fun a ha b hb => ?_⟩
  · rw [List.singleton_append]
    exact List.pairwise_cons.2 ⟨fun b hb => hhi b hb, p2⟩
  · rw [List.singleton_append] at hb
    rcases List.mem_cons.1 hb with rfl | hb
    · exact hlo a ha
    · exact p3 a ha b hb
/-- does a range stay behind a delta? -/
def stG (d : List Dop) (x : Rg) : Bool := decide ((mvG d x).lo < (mvG d x).hi)
/-- the document's Behind, range by range -/
def behS (d : List Dop) (p : List Rg × List ByteArray) (x : Rg) : List Rg × List ByteArray := if stG d x then (insG (mvG d x) p.1, p.2) else (p.1, insN x.n p.2)
def behL (d : List Dop) (D : List Rg) : List Rg × List ByteArray := D.foldl (behS d) ([], [])
theorem beh_take {d : List Dop} {D : List Rg} {i : Nat} (hi : i < D.length) : (D.take (i + 1)).foldl (behS d) ([], []) = behS d ((D.take i).foldl (behS d) ([], [])) (D.getD i rgZ) := by
  rw [List.take_add_one, List.foldl_append]
  simp [hi]
theorem beh_fst (d : List Dop) : ∀ (D : List Rg) (p : List Rg × List ByteArray), (D.foldl (behS d) p).1 = (D.filter (stG d)).foldl (fun o x => insG (mvG d x) o) p.1
  | [], _ => rfl
  | x :: D, p => by
    rw [List.foldl_cons, beh_fst d D]
    unfold behS
    cases h : stG d x with
    | true => rw [List.filter_cons_of_pos h]; rfl
    | false => rw [List.filter_cons_of_neg (by simp [h])]; rfl
theorem beh_snd (d : List Dop) : ∀ (D : List Rg) (p : List Rg × List ByteArray), SrtN p.2 → SrtN (D.foldl (behS d) p).2 ∧ ((D.foldl (behS d) p).2).Perm (p.2 ++ (D.filter fun x => !stG d x).map (·.n))
  | [], p, h => ⟨h, by simp⟩
  | x :: D, p, h => by
    rw [List.foldl_cons]
    cases hx : stG d x with
    | true =>
      obtain ⟨h1, h2⟩ := beh_snd d D (behS d p x) (by unfold behS; rw [hx]; exact h)
      refine ⟨h1, h2.trans ?_⟩
      rw [List.filter_cons_of_neg (by simp [hx])]
      unfold behS; rw [hx]; exact List.Perm.refl _
    | false =>
      obtain ⟨h1, h2⟩ := beh_snd d D (behS d p x) (by unfold behS; rw [hx]; exact insN_srt _ _ h)
      refine ⟨h1, h2.trans ?_⟩
      rw [List.filter_cons_of_pos (by simp [hx])]
      unfold behS; rw [hx]
      simp only [Bool.false_eq_true, if_false, List.map_cons]
      exact ((insN_perm x.n p.2).append_right _).trans (by simpa using (List.perm_middle (a := x.n) (l₁ := p.2) (l₂ := (D.filter fun x => !stG d x).map (·.n))).symm)
theorem behL_len (d : List Dop) : ∀ (D : List Rg) (p : List Rg × List ByteArray), (D.foldl (behS d) p).1.length ≤ p.1.length + D.length ∧ (D.foldl (behS d) p).2.length ≤ p.2.length + D.length
  | [], p => by simp
  | x :: D, p => by
    obtain ⟨h1, h2⟩ := behL_len d D (behS d p x)
    rw [List.foldl_cons]
    have h3 : (behS d p x).1.length ≤ p.1.length + 1 ∧ (behS d p x).2.length ≤ p.2.length + 1 := by
      unfold behS
      split
      · exact ⟨by rw [insG_len]; exact Nat.le_refl _, by simp⟩
      · exact ⟨by simp, by rw [(insN_perm _ _).length_eq]; simp⟩
    simp only [List.length_cons]
    omega
/-- the document's list behind, beside the map's -/
theorem Rel.beh {L D S : List Rg} (h : Rel L D) (d : List Dop) (hS : S.Perm L) : Rel (kpG d S) (behL d D).1 := by
  have h1 : Rel (L.filter (stG d)) (D.filter (stG d)) := ⟨h.p.filter _, List.Pairwise.sublist List.filter_sublist h.s, h.u.sublist (List.filter_sublist.map _)⟩
  have h2 := h1.mov (mvG d) (fun _ => rfl) (hS.filter (stG d))
  have e1 : (S.filter (stG d)).map (mvG d) = kpG d S := by
    unfold kpG
    rw [List.filter_map]; rfl
  have e2 : movG (mvG d) (D.filter (stG d)) = (behL d D).1 := by
    unfold behL movG
    rw [beh_fst]
  rw [e1, e2] at h2
  exact h2
theorem beh_gone {L D S : List Rg} (h : Rel L D) (d : List Dop) (hS : S.Perm L) {G : List ByteArray} (hp : G.Perm (goG d S)) (hs : SrtN G) : G = (behL d D).2 := by
  obtain ⟨h1, h2⟩ := beh_snd d D ([], []) List.Pairwise.nil
  refine srtN_one (hp.trans ?_) hs h1
  refine List.Perm.trans ?_ h2.symm
  have e : goG d S = (S.filter fun x => !stG d x).map (·.n) := by
    unfold goG
    rw [List.filter_map, List.map_map]; rfl
  rw [e, List.nil_append]
  exact ((hS.trans h.p.symm).filter _).map _
end Go.Proofs.Ytifpjdodignflaa
end

section
namespace Go.Proofs.Ytifpjdodignflaa
open Go.ChangeShapes Go.WideShapes Go.ChangeAt Go.RowKit
attribute [local go_sem] Oper.semAt_some

/-- names appended to a row of names of one's own -/
theorem app_strs (W : World) (B g c : Nat) (xs ys : List ByteArray) (ty : TypeId) (h : W.ownsRow B 9 1 (.slice (some ⟨g, 0, none⟩) xs.length c) xs.length (strsV xs)) (a : Option Addr) (c2 : Nat)
    (hy : ys = [] ∨ ∃ g2 off, a = some ⟨g2, off, none⟩ ∧ ∀ j, j < ys.length → W.cell? ⟨g2, off + j, none⟩ = some (.string (ys.getD j ⟨#[]⟩))) (hl : xs.length + ys.length ≤ 1048576) (hB : B ≤ W.heap.size) (hc : xs.length ≤ c) :
    ∃ g' c' W', (Builtin.append_ #[49, 49] ty #[.slice (some ⟨g, 0, none⟩) xs.length c, .slice a ys.length c2]).run Try.prog W = .ok (.slice (some ⟨g', 0, none⟩) (xs.length + ys.length) c') W' ∧
      W'.ownsRow B 9 1 (.slice (some ⟨g', 0, none⟩) (xs ++ ys).length c') (xs ++ ys).length (strsV (xs ++ ys)) ∧ Below B W W' ∧ xs.length + ys.length ≤ c' := by
  obtain ⟨i, hi, hz, hs, hby⟩ := info_str
  by_cases h0 : ys = []
  · subst h0
    have hsrc : Src Try.prog i.size 49 (.slice a 0 c2) 0 [] W := by
      cases a with
      | none => exact Src.ofNil _ Try.underlying49 c2
      | some x => exact Src.ofSlice _ Try.underlying49 x 0 c2 [] (by simp) (fun j u h => by simp at h) (fun u h => by cases h)
    refine ⟨g, c, W, run_append_room_src (P := Try.prog) W 49 49 ty 9 i Try.underlying49 hi g 0 xs.length c (.slice a 0 c2) 0 [] hsrc hc (fun j hj => absurd hj (Nat.not_lt_zero _)) (fun j hj => absurd hj (Nat.not_lt_zero _)), by rw [List.append_nil]; exact h, Below.refl _ _, hc⟩
  · rcases hy with hy | ⟨g2, off, rfl, hcell⟩
    · exact absurd hy h0
    · have hpos := List.length_pos_iff.2 h0
      obtain ⟨g', c', W', hrun, ho, hg, _, _⟩ := run_append_lies (P := Try.prog) W 49 ty B 9 i (.string ⟨#[]⟩) 1 16 Try.underlying49 hi hz hs hby rfl (by decide)
        _ xs.length (strsV xs) h ⟨g2, off, none⟩ ys.length c2 (strsV ys) (by simp [strsV])
        (fun j u hj => by
          have hjl : j < ys.length := by have := (List.getElem?_eq_some_iff.1 hj).1; simpa [strsV] using this
          rw [Addr.add_lit, hcell j hjl, ← hj]
          simp [strsV, List.getD, hjl])
        (fun u hu => by obtain ⟨x, _, rfl⟩ := List.mem_map.1 hu; rfl) hpos (by unfold maxLen; omega) (by omega) hB _ rfl
      obtain ⟨_, _, e, hcc⟩ := rowD_form ho
      injection e with e1 e2 e3
      subst e3
      refine ⟨g', c', W', hrun, ?_, (Below.refl B W).grown hg (by omega) (fun k hk => (rowD_block h hk).1), hcc⟩
      have e : strsV (xs ++ ys) = strsV xs ++ strsV ys := by simp [strsV]
      rw [e, List.length_append]; exact ho
theorem strs_cells {W : World} {B g c : Nat} {l : List ByteArray} (h : W.ownsRow B 9 1 (.slice (some ⟨g, 0, none⟩) l.length c) l.length (strsV l)) {j : Nat} (hj : j < l.length) : W.cell? ⟨g, j, none⟩ = some (.string (l.getD j ⟨#[]⟩)) := by
  have e : (strsV l)[j]? = some (.string (l.getD j ⟨#[]⟩)) := by simp [strsV, List.getD, hj]
  have := World.ownsRow.cells h rfl j _ e
  rwa [Addr.add_lit, Nat.zero_add] at this
/-- what the loop of the document's Behind keeps -/
structure BeJ (X wx : World) (n : Int) (va : Value) (TD : Int) (bt : Nat) (q : List Rg) (G : List ByteArray) (vo vg : Value) : Prop where
  k2 : Cls wx X.heap.size 30 #[.int .i64 n, va]
  k4 : Cls wx (X.heap.size + 1) 30 #[.int .i64 0, .slice none 0 0]
  k : Cls wx bt 30 #[.int .i64 TD, vo]
  o : wx.ownsRow X.heap.size 37 5 vo q.length (rgsV q)
  g : wx.ownsRow X.heap.size 9 1 vg G.length (strsV G)
  z : G = [] → vg = .slice none 0 0
  d : Below X.heap.size X wx
  b : X.heap.size + 2 ≤ bt
theorem BeJ.on {X wx wy : World} {n : Int} {va : Value} {TD : Int} {bt : Nat} {q : List Rg} {G : List ByteArray} {vo vg : Value} (h : BeJ X wx n va TD bt q G vo vg) (hb : Below wx.heap.size wx wy) : BeJ X wy n va TD bt q G vo vg :=
  ⟨h.k2.below hb h.k2.lt, h.k4.below hb h.k4.lt, h.k.below hb h.k.lt, rowD_below h.o hb (Nat.le_refl _), rowD_below h.g hb (Nat.le_refl _), h.z, h.d.trans (hb.mono h.d.size), h.b⟩
theorem row_setC {W : World} {B s n b j : Nat} {t t2 : TypeId} {v u : Value} {xs : List Value} {cs : Array Value} (h : W.ownsRow B t s v n xs) (k : Cls W b t2 cs) (ht : t ≠ t2) : (W.setCell ⟨b, j, none⟩ u).ownsRow B t s v n xs := rowD_on h fun G hG => Below.heap_setCell _ _ _ G fun e => by
  obtain ⟨_, cur, hc⟩ := rowD_block h hG
  unfold Cls at k
  rw [e, k] at hc
  cases hc
  exact ht rfl
/-- one more range that stays -/
theorem BeJ.put {X wx : World} {n : Int} {va : Value} {TD : Int} {bt : Nat} {q q' : List Rg} {G : List ByteArray} {vo vg v' : Value} (h : BeJ X wx n va TD bt q G vo vg) (ho : wx.ownsRow X.heap.size 37 5 v' q'.length (rgsV q')) : BeJ X (wx.setCell ⟨bt, 1, none⟩ v') n va TD bt q' G v' vg :=
  ⟨h.k2.other ⟨bt, 1, none⟩ v' (by have := h.b; show X.heap.size ≠ bt; omega), h.k4.other ⟨bt, 1, none⟩ v' (by have := h.b; show X.heap.size + 1 ≠ bt; omega), h.k.set 1 v', row_setC ho h.k (by decide), row_setC h.g h.k (by decide), h.z, h.d.setCell (p := ⟨bt, 1, none⟩) (by have := h.b; show X.heap.size ≤ bt; omega) v', h.b⟩
/-- a name put among the others: three appends -/
theorem BeJ.three {X W : World} {n : Int} {va : Value} {TD : Int} {bt bX k cg c1 c3 : Nat} {q : List Rg} {G : List ByteArray} {vo : Value} {ag a1 a3 : Option Addr} {cs : Array Value} (h : BeJ X W n va TD bt q G vo (.slice ag G.length cg)) (s : ByteArray) (hk : k ≤ G.length) (hl : G.length ≤ 1024)
    (h1 : G.take k = [] ∨ ∃ gg, ag = some ⟨gg, 0, none⟩ ∧ a1 = some ⟨gg, 0, none⟩) (h3 : G.drop k = [] ∨ ∃ gg, ag = some ⟨gg, 0, none⟩ ∧ a3 = some ⟨gg, k, none⟩) (kx : Cls W bX 37 cs) :
    ∃ v1 W1, (Builtin.append_ #[49, 49] 49 #[.slice (some ⟨W.heap.size, 0, none⟩) 0 0, .slice a1 k c1]).run Try.prog (W.alloc (.cells #[] 9)) = .ok v1 W1 ∧ Cls W1 bX 37 cs ∧ Below W.heap.size W W1 ∧
      ∃ v2 W2, (Builtin.append_ #[49, 49] 49 #[v1, .slice (some ⟨W1.heap.size, 0, none⟩) 1 1]).run Try.prog (W1.alloc (.cells #[.string s] 9)) = .ok v2 W2 ∧
      ∃ v3 W3, (Builtin.append_ #[49, 49] 49 #[v2, .slice a3 (G.length - k) c3]).run Try.prog W2 = .ok v3 W3 ∧ BeJ X W3 n va TD bt q (G.take k ++ [s] ++ G.drop k) vo v3 := by
  have e1 : (G.take k).length = k := by rw [List.length_take]; omega
  have e3 : (G.drop k).length = G.length - k := List.length_drop
  have b0 := (Below.refl W.heap.size W).alloc (Nat.le_refl _) (.cells #[] 9)
  have hown : (W.alloc (.cells #[] 9)).ownsRow W.heap.size 9 1 (.slice (some ⟨W.heap.size, 0, none⟩) ([] : List ByteArray).length 0) ([] : List ByteArray).length (strsV []) := World.ownsRow_made W #[] 0 (Nat.le_refl _) (Nat.zero_le _) rfl
  have hgg : ∀ gg, ag = some ⟨gg, 0, none⟩ → gg < W.heap.size ∧ ∀ j, j < G.length → W.cell? ⟨gg, j, none⟩ = some (.string (G.getD j ⟨#[]⟩)) := fun gg e => by
    have hg := h.g
    rw [e] at hg
    obtain ⟨_, cur, hc⟩ := rowD_block hg (G := gg) rfl
    exact ⟨(Array.getElem?_eq_some_iff.1 hc).1, fun j hj => strs_cells hg hj⟩
  obtain ⟨g1, k1, W1, r1, o1, x1, l1⟩ := app_strs (W.alloc (.cells #[] 9)) W.heap.size W.heap.size 0 [] (G.take k) 49 hown a1 c1 (by
    rcases h1 with h1 | ⟨gg, ea, e⟩
    · exact .inl h1
    · obtain ⟨hlt, hcell⟩ := hgg gg ea
      refine .inr ⟨gg, 0, e, fun j hj => ?_⟩
      rw [e1] at hj
      rw [Nat.zero_add, b0.cell (p := ⟨gg, j, none⟩) hlt, hcell j (by omega)]
      simp [List.getD, hj]) (by simp; omega) (by rw [World.size_alloc]; omega) (Nat.le_refl _)
  rw [List.nil_append] at o1
  rw [List.length_nil, Nat.zero_add, e1] at r1
  have b1 : Below W.heap.size W W1 := b0.trans x1
  rw [List.length_nil, Nat.zero_add] at l1
  obtain ⟨g2, k2, W2, r2, o2, _, x2⟩ := push_str W1 W.heap.size (G.take k).length _ (strsV (G.take k)) s 49 o1 (by omega) b1.size
  rw [e1] at r2
  have e2 : strsV (G.take k) ++ [.string s] = strsV (G.take k ++ [s]) := (strsV_snoc _ _).symm
  rw [e2] at o2
  have e4 : (G.take k ++ [s]).length = (G.take k).length + 1 := by rw [List.length_append]; rfl
  rw [← e4] at o2
  obtain ⟨_, _, ef, lf⟩ := rowD_form o2
  injection ef with ef1 ef2 ef3
  subst ef3
  have b2 : Below W.heap.size W W2 := b1.trans x2
  obtain ⟨g3, k3, W3, r3, o3, x3, _⟩ := app_strs W2 W.heap.size g2 k2 (G.take k ++ [s]) (G.drop k) 49 o2 a3 c3 (by
    rcases h3 with h3 | ⟨gg, ea, e⟩
    · exact .inl h3
    · obtain ⟨hlt, hcell⟩ := hgg gg ea
      refine .inr ⟨gg, k, e, fun j hj => ?_⟩
      rw [e3] at hj
      rw [b2.cell (p := ⟨gg, k + j, none⟩) hlt, hcell (k + j) (by omega)]
      simp [List.getD, List.getElem?_drop]) (by rw [e4, e1, e3]; omega) b2.size lf
  rw [e4, e1, e3] at r3
  have b3 : Below W.heap.size W W3 := b2.trans x3
  have j3 := h.on b3
  refine ⟨_, W1, r1, kx.below b1 kx.lt, b1, _, W2, r2, _, W3, r3, ⟨j3.k2, j3.k4, j3.k, j3.o, ?_, fun e => absurd e (by simp), j3.d, j3.b⟩⟩
  have o3' := rowD_base o3 h.d.size
  have e5 : (G.take k ++ [s] ++ G.drop k).length = k + 1 + (G.length - k) := by rw [List.length_append, e4, e1, e3]
  rw [e5] at o3' ⊢
  exact o3'
end Go.Proofs.Ytifpjdodignflaa
end
