/- Layer 16: Behind. · Layer 16, plain: the order of ranges; lists in order; the document's list beside the map's (Mkg's text, turned). · Layer 16: lists of ranges in memory (Mkh's text, turned). -/
import Derived.Test.YtifpjdodignflaaRp28
import Derived.Lib.Bytealg
import Derived.Test.YtifpjdodignflaaRp17

section
namespace Go.Proofs.Ytifpjdodignflaa
open Go.ChangeShapes Go.WideShapes Go.ChangeAt Go.RowKit
attribute [local go_sem] Oper.semAt_some

theorem go_len (d : List Dop) (S : List Rg) : (goG d S).length ≤ S.length := by
  unfold goG
  rw [List.length_map]
  exact Nat.le_trans (List.length_filter_le _ _) (by simp)
open Go.Sort in
theorem strs_holds {X : World} {B g c : Nat} {l : List ByteArray} (h : X.ownsRow B 9 1 (.slice (some ⟨g, 0, none⟩) l.length c) l.length (strsV l)) : Holds encStr X g 0 (l.map (·.data.toList)).toArray := fun j hj => by
  have hj' : j < l.length := by simpa using hj
  rcases h.2 with ⟨e, _⟩ | ⟨g', c', cur, e, _, hg, _, _, hs, ht⟩
  · cases e
  · cases e
    refine ⟨?_, by simp [World.frozen?, hg]⟩
    have h1 : cur.toList[j]? = (strsV l)[j]? := by
      rw [← ht, List.getElem?_take_of_lt (by omega)]
    have h2 : (strsV l)[j]? = some (.string l[j]) := by simp [strsV, hj']
    rw [Nat.zero_add]
    have h3 : X.cell? ⟨g, j, none⟩ = cur[j]? := by simp [World.cell?, hg]
    rw [h3, ← Array.getElem?_toList, h1, h2]
    simp [hj']
open Go.Sort in
theorem sort_blocks {α : Type} [Inhabited α] (enc : α → Value) (w : World) (blk off n : Nat) (dk : Array α) (os : Array Obj) : (∀ N, N ≤ blk → N ≤ w.heap.size → Go.RowKit.Below N w (grow (putRow enc (Sort.ahead w n) blk off dk) os)) ∧ ∀ k, k < w.heap.size → k ≠ blk → (grow (putRow enc (Sort.ahead w n) blk off dk) os).heap[k]? = w.heap[k]? := by
  have hk : ∀ k, k < w.heap.size → k ≠ blk → (grow (putRow enc (Sort.ahead w n) blk off dk) os).heap[k]? = w.heap[k]? := fun k h1 h2 => by
    show (w.heap.modify blk _ ++ os)[k]? = _
    rw [Array.getElem?_append_left (by rw [Array.size_modify]; exact h1), Array.getElem?_modify, if_neg (Ne.symm h2)]
  refine ⟨fun N hN hw => ⟨rfl, rfl, rfl, ?_, fun k h => hk k (by omega) (by omega)⟩, hk⟩
  show _ ≤ (w.heap.modify blk _ ++ os).size
  rw [Array.size_append, Array.size_modify]; omega
set_option maxRecDepth 100000 in
theorem GSort_at (w : World) (B : Nat) (a : Option Addr) (c : Nat) (l : List ByteArray) (h : w.ownsRow B 9 1 (.slice a l.length c) l.length (strsV l)) (hl : l.length ≤ 1048576) (hB : B ≤ w.heap.size) :
    Calls Try.prog 37 #[.slice a l.length c] w fun y w' => y = .returned (.tuple #[]) ∧ Below B w w' ∧ w.heap.size ≤ w'.heap.size ∧ ∀ k, k < w.heap.size → (∀ cs t mk, w.heap[k]? ≠ some (.cells cs t mk)) → w'.heap[k]? = w.heap[k]? := by
  by_cases h0 : l = []
  · subst h0
    exact (Try.slices_Sort_string_none a c w).mono fun y w' ⟨e, e2⟩ => by
      subst e2
      exact ⟨e, Below.refl _ _, Nat.le_refl _, fun _ _ _ => rfl⟩
  · obtain ⟨g, c', e, _, hlt⟩ := h.form (List.length_pos_iff.2 h0)
    cases e
    have hH := strs_holds h
    have := Try.slices_Sort_string g 0 c (l.map (·.data.toList)) w hH hlt (by rw [List.length_map]; omega)
    rw [List.length_map] at this
    refine this.mono fun y w' ⟨e, n, os, e2⟩ => ?_
    subst e2
    obtain ⟨b1, b2⟩ := sort_blocks encStr w g 0 n ((l.map (·.data.toList)).mergeSort fun x y => decide (x ≤ y)).toArray os
    have hgB := (rowD_block h (G := g) rfl).1
    refine ⟨e, b1 B hgB hB, (b1 B hgB hB).size, fun k hk hc => b2 k hk fun eq => ?_⟩
    obtain ⟨_, cur, hcur⟩ := rowD_block h (G := g) rfl
    rw [eq] at hc
    exact hc _ _ _ hcur
set_option maxRecDepth 100000 in
set_option maxHeartbeats 4000000 in
theorem GBeh_at (g : Nat) (n : Int) (L : List Rg) (a : Option Addr) (c : Nat) (d : List Dop) (X : World) (h : IsRs X g n L) (ho : IsO X a d) (hl : d.length ≤ 4611686018427387904) (hv : valB d = true) (hf : (frD d : Int) = n) (hN : (L.map (·.n)).Nodup) (hL : L.length ≤ 1024) :
    Calls Try.prog 15 #[.pointer (some ⟨g, 0, none⟩), .slice a d.length c] X fun y X' => ∃ g' S ag cg, y = .returned (.tuple #[.pointer (some ⟨g', 0, none⟩), .slice ag (goG d S).length cg, .int .i64 0]) ∧ S.Perm L ∧ IsRs X' g' (toD d) (kpG d S) ∧ Below X.heap.size X X' := by
  have HLN := hide (Lens_at a c d X ho hl)
  unfold lensV at HLN
  rw [hv] at HLN
  simp only [if_true] at HLN
  have HMV := hide fun (Y : World) (hY : Below X.heap.size X Y) (m : Rg) => GMov_at a c d m Y (ho.below hY (Nat.le_refl _)) hl
  obtain ⟨r, kg0, mg0⟩ := h.c
  have hrX : r < X.heap.size := mg0.lt
  have HS := hide (And.intro kg0 mg0)
  have HN := hide (And.intro hN hL)
  have t1 : ((frD d : Int) != n) = false := by rw [hf]; simp
  have t1' : ((frD d : Int) == n) = true := by rw [hf]; simp
  clear h ho hl hv hf hN hL kg0 mg0
  generalize (toD d : Int) = TD at *
  generalize (frD d : Int) = FD at *
  go_enter Try.func15, Try.ntmps15
  go_wp2_with fail
  refine (unhide HLN).mono ?_
  rintro y w1 ⟨rfl, x1⟩
  dsimp only
  have kg := (unhide HS).1.below x1 (unhide HS).1.lt
  have mg := (unhide HS).2.below x1 (Nat.le_refl _)
  have c0 := kg.cell 0
  have c1 := kg.cell 1
  simp only [List.getElem?_toArray, List.getElem?_cons_zero, List.getElem?_cons_succ] at c0 c1
  obtain ⟨es, clock, hh, hz⟩ := mg.len
  have RL := run_len_map (P := Try.prog) (w := w1) 65 3 r es clock (by kernel_rfl) hh
  simp only [goInt] at RL
  have RM := run_makeMapN w1 es.size
  have b2 := (Below.refl w1.heap.size w1).alloc (Nat.le_refl _) (.map #[] 0)
  have kg2 := kg.below b2 kg.lt
  have c2 := kg2.cell 1
  simp only [List.getElem?_toArray, List.getElem?_cons_zero, List.getElem?_cons_succ] at c2
  obtain ⟨o, RR, it⟩ := ItG.start (P := Try.prog) (w1.alloc (.map #[] 0)) Try.underlying65 (mg.below b2 (Nat.le_refl _))
  have b3 := (Below.refl (w1.alloc (.map #[] 0)).heap.size (w1.alloc (.map #[] 0))).alloc (Nat.le_refl _) o
  have hj : GbJ X ((w1.alloc (.map #[] 0)).alloc o) (w1.alloc (.map #[] 0)).heap.size w1.heap.size r d L [] [] (.slice none 0 0) := ⟨it, (IsRp.new w1).below b3 (Nat.le_refl _), World.ownsRow_nil _ _ _ _, x1.trans ((b2.mono x1.size).trans (b3.mono (Nat.le_trans x1.size b2.size))), Nat.le_trans x1.size b2.size, x1.size⟩
  rw [World.size_alloc] at RR hj
  have HJ := hide hj
  have HKG := hide (kg2.below b3 kg2.lt)
  clear HLN hh hz kg mg b2 kg2 it b3 hj x1 HS
  go_wp2_with fail
  generalize hri : w1.heap.size + 1 = ri at *
  generalize w1.heap.size = r2 at *
  go_loopw [11, 12, 13] (fun v11 v12 v13 wx => ((∃ z, v12 = z) ∧ (∃ z, v13 = z)) ∧ Hid (∃ S, GbJ X wx ri r2 r d L S S v11)) (fun _ _ _ wx => leftN wx r ri)
  case atStart => exact ⟨⟨⟨_, rfl⟩, ⟨_, rfl⟩⟩, hide ⟨[], unhide HJ⟩⟩
  case round =>
    clear HJ
    obtain ⟨⟨⟨z1, rfl⟩, ⟨z2, rfl⟩⟩, HI⟩ := hrel
    obtain ⟨S, hJ⟩ := unhide HI
    rcases hJ.next 0 with ⟨hp, hr⟩ | ⟨m, T, X', hp, hr, he, hJ', hlt⟩
    · obtain ⟨ag, cg, hv11, _⟩ := rowD_form hJ.go
      subst hv11
      have hgl : (goG d S).length ≤ 1048576 := by
        have h1 := go_len d S
        have h2 := hp.length_eq
        have h3 := (unhide HN).2
        omega
      have HC := hide (GSort_at wr X.heap.size ag cg (goG d S) hJ.go hgl hJ.dd.size)
      have HJ := hide hJ
      have HP := hide hp
      clear HI hJ hp hgl
      go_wp2_with fail
      refine (unhide HC).mono ?_
      rintro y w5 ⟨rfl, x5, _, xk⟩
      dsimp only
      have m5 : IsRp w5 r2 (kpG d S) := (unhide HJ).mp.same (xk r2 (unhide HJ).mp.lt fun cs t mk hq => by
        obtain ⟨es', cl', h1, _⟩ := (unhide HJ).mp
        rw [h1] at hq; cases hq)
      have hb5 := (unhide HJ).dd.trans x5
      have k6 := Cls.new w5 67 #[.int .i64 TD, .map (some r2)]
      have m6 : IsRp (w5.alloc (.cells #[.int .i64 TD, .map (some r2)] 67)) r2 (kpG d S) := m5.same (heap_alloc_old _ _ m5.lt)
      have HR : Hid (IsRs (w5.alloc (.cells #[.int .i64 TD, .map (some r2)] 67)) w5.heap.size TD (kpG d S)) := hide ⟨_, k6, m6⟩
      have HB6 := hide (hb5.alloc hb5.size (.cells #[.int .i64 TD, .map (some r2)] 67))
      clear HC HJ m5 hb5 k6 m6 x5 xk
      go_wp2_with fail
      refine bodyPost_ret (results_tmp3 rfl _ _) rfl ?_
      exact ⟨_, S, ag, cg, rfl, unhide HP, unhide HR, unhide HB6⟩
    · obtain ⟨mn, ml, mh, ms, me⟩ := m
      unfold rgV at hr he
      dsimp only at hr he
      have b1 := (Below.refl X'.heap.size X').alloc (Nat.le_refl _) (.cells #[.string mn, .int .i64 ml, .int .i64 mh, .int .i64 ms, .int .i64 me] 37)
      have k1 := Cls.new X' 37 #[.string mn, .int .i64 ml, .int .i64 mh, .int .i64 ms, .int .i64 me]
      have d0 := k1.cell 0
      have d1 := k1.cell 1
      have d2 := k1.cell 2
      have d3 := k1.cell 3
      have d4 := k1.cell 4
      simp only [List.getElem?_toArray, List.getElem?_cons_zero, List.getElem?_cons_succ] at d0 d1 d2 d3 d4
      have HC := hide (unhide HMV _ (hJ'.dd.trans (b1.mono hJ'.dd.size)) ⟨mn, ml, mh, ms, me⟩)
      unfold rgV at HC
      dsimp only at HC
      have HJ' := hide hJ'
      have HP := hide (And.intro hp hlt)
      have HB1 := hide b1
      have HK1 := hide k1
      clear HI hJ hp hJ' hlt b1 k1
      go_wp2_with fail
      refine (unhide HC).mono ?_
      rintro y w2 ⟨rfl, x2⟩
      dsimp only [mvG]
      have hB2 := (unhide HB1).trans (x2.mono (unhide HB1).size)
      have k2 := (unhide HK1).below x2 (unhide HK1).lt
      obtain ⟨V1, hV1⟩ : ∃ V1, V1 = plV d ml ms := ⟨_, rfl⟩
      obtain ⟨V2, hV2⟩ : ∃ V2, V2 = plV d mh me := ⟨_, rfl⟩
      rw [← hV1, ← hV2]
      have HV := hide (And.intro hV1 hV2)
      have g0 := k2.cell 0
      have g1 := k2.cell 1
      have g2 := k2.cell 2
      have g3 := k2.cell 3
      have g4 := k2.cell 4
      have z0 := k2.frozen 0
      have z1 := k2.frozen 1
      have z2 := k2.frozen 2
      have z3 := k2.frozen 3
      have z4 := k2.frozen 4
      have k9 := ((((k2.set 0 (.string mn)).set 1 (.int .i64 V1)).set 2 (.int .i64 V2)).set 3 (.int .i64 ms)).set 4 (.int .i64 me)
      have hB9 := ((((hB2.setCell (p := ⟨X'.heap.size, 0, none⟩) (Nat.le_refl _) (.string mn)).setCell (p := ⟨X'.heap.size, 1, none⟩) (Nat.le_refl _) (.int .i64 V1)).setCell (p := ⟨X'.heap.size, 2, none⟩) (Nat.le_refl _) (.int .i64 V2)).setCell (p := ⟨X'.heap.size, 3, none⟩) (Nat.le_refl _) (.int .i64 ms)).setCell (p := ⟨X'.heap.size, 4, none⟩) (Nat.le_refl _) (.int .i64 me)
      simp only [List.getElem?_toArray, List.getElem?_cons_zero, List.getElem?_cons_succ, List.setIfInBounds_toArray, List.set_cons_zero, List.set_cons_succ] at g0 g1 g2 g3 g4 k9
      have HJ9 := hide ((unhide HJ').on hB9)
      have HL9 := hide (leftN_same (hB9.block ri (unhide HJ').it.lt.1) (hB9.block r (unhide HJ').it.lt.2))
      have HK9 := hide k9
      clear HC HB1 HK1 x2 hB2 k2 hV1 hV2 k9 hB9 HJ' d0 d1 d2 d3 d4 hr he
      go_upto_region 14 with fail
      clear g0 g1 g2 g3 g4 z0 z1 z2 z3 z4
      generalize ((((w2.setCell ⟨X'.heap.size, 0, none⟩ (.string mn)).setCell ⟨X'.heap.size, 1, none⟩ (.int .i64 V1)).setCell ⟨X'.heap.size, 2, none⟩ (.int .i64 V2)).setCell ⟨X'.heap.size, 3, none⟩ (.int .i64 ms)).setCell ⟨X'.heap.size, 4, none⟩ (.int .i64 me) = w9 at *
      have d0 := (unhide HK9).cell 0
      have d1 := (unhide HK9).cell 1
      have d2 := (unhide HK9).cell 2
      have d3 := (unhide HK9).cell 3
      have d4 := (unhide HK9).cell 4
      simp only [List.getElem?_toArray, List.getElem?_cons_zero, List.getElem?_cons_succ] at d0 d1 d2 d3 d4
      clear HK9
      by_cases hk : V1 < V2
      · have t3 : decide (V1 < V2) = true := decide_eq_true hk
        have hk' : (mvG d ⟨mn, ml, mh, ms, me⟩).lo < (mvG d ⟨mn, ml, mh, ms, me⟩).hi := by
          show plV d ml ms < plV d mh me
          rw [← (unhide HV).1, ← (unhide HV).2]; exact hk
        obtain ⟨o, RU, hJ2, hl2⟩ := (unhide HJ9).put (unhide HP).1 (unhide HN).1 hrX hk'
        unfold rgV mvG at RU
        dsimp only at RU
        rw [← (unhide HV).1, ← (unhide HV).2] at RU
        have HJ2 := hide hJ2
        have HM2 := hide (hl2.trans (unhide HL9))
        clear hk hk' hJ2 hl2 HJ9 HL9 HV
        generalize ({ w9 with heap := w9.heap.setIfInBounds r2 o } : World) = wA at *
        go_wp2_with fail
        go_roundw
        case rel => exact ⟨⟨⟨_, rfl⟩, ⟨_, rfl⟩⟩, hide ⟨_, unhide HJ2⟩⟩
        case measure => rw [unhide HM2]; exact (unhide HP).2
      · have t3 : decide (V1 < V2) = false := decide_eq_false hk
        have hk' : ¬ (mvG d ⟨mn, ml, mh, ms, me⟩).lo < (mvG d ⟨mn, ml, mh, ms, me⟩).hi := by
          show ¬ plV d ml ms < plV d mh me
          rw [← (unhide HV).1, ← (unhide HV).2]; exact hk
        have hgl : (goG d S).length ≤ 4398046511104 := by
          have h1 := go_len d S
          have h2 := (unhide HP).1.length_eq
          have h3 := (unhide HN).2
          rw [List.length_append] at h2
          omega
        obtain ⟨v', W', ra, hJ2, hl2⟩ := (unhide HJ9).goes hrX hk' hgl
        dsimp only at ra
        have R := hide ra
        have HJ2 := hide hJ2
        have HM2 := hide (hl2.trans (unhide HL9))
        clear hk hk' hJ2 hl2 HJ9 HL9 HV hgl ra
        go_wp2_with (at_builtin; refine wpList_append_known rfl _ _ 49 49 rfl _ _ rfl rfl _ _ (unhide R) ?_; clear R)
        go_roundw
        case rel => exact ⟨⟨⟨_, rfl⟩, ⟨_, rfl⟩⟩, hide ⟨_, unhide HJ2⟩⟩
        case measure => rw [unhide HM2]; exact (unhide HP).2
end Go.Proofs.Ytifpjdodignflaa
end

section
namespace Go.Proofs.Ytifpjdodignflaa

theorem bless_irrefl : ∀ l : List UInt8, Op.bytesLess l l = false
  | [] => rfl
  | a :: l => by simp [Op.bytesLess, bless_irrefl l]
theorem bless_trans : ∀ a b c : List UInt8, Op.bytesLess a b = true → Op.bytesLess b c = true → Op.bytesLess a c = true
  | _, [], _, h, _ => by simp [Op.bytesLess] at h
  | _, _ :: _, [], _, h => by simp [Op.bytesLess] at h
  | [], _ :: _, _ :: _, _, _ => rfl
  | x :: a, y :: b, z :: c, h1, h2 => by
    simp only [Op.bytesLess, Bool.or_eq_true, Bool.and_eq_true, decide_eq_true_eq, beq_iff_eq] at h1 h2 ⊢
    rcases h1 with h1 | ⟨rfl, h1⟩
    · rcases h2 with h2 | ⟨rfl, h2⟩
      · exact .inl (UInt8.lt_trans h1 h2)
      · exact .inl h1
    · rcases h2 with h2 | ⟨rfl, h2⟩
      · exact .inl h2
      · exact .inr ⟨rfl, bless_trans a b c h1 h2⟩
theorem bless_tri : ∀ a b : List UInt8, Op.bytesLess a b = false → Op.bytesLess b a = false → a = b
  | [], [], _, _ => rfl
  | [], _ :: _, h, _ => by simp [Op.bytesLess] at h
  | _ :: _, [], _, h => by simp [Op.bytesLess] at h
  | x :: a, y :: b, h1, h2 => by
    simp only [Op.bytesLess, Bool.or_eq_false_iff, decide_eq_false_iff_not, Bool.and_eq_false_iff, beq_eq_false_iff_ne, ne_eq] at h1 h2
    have e : x = y := UInt8.le_antisymm (UInt8.not_lt.1 h2.1) (UInt8.not_lt.1 h1.1)
    subst e
    have k1 : Op.bytesLess a b = false := by rcases h1.2 with h | h; · exact absurd rfl h
                                             · exact h
    have k2 : Op.bytesLess b a = false := by rcases h2.2 with h | h; · exact absurd rfl h
                                             · exact h
    rw [bless_tri a b k1 k2]
theorem cmpB : ∀ a b : List UInt8, Lib.compareBytes a b = if Op.bytesLess a b then -1 else if Op.bytesLess b a then 1 else 0
  | [], [] => rfl
  | [], _ :: _ => rfl
  | _ :: _, [] => rfl
  | x :: a, y :: b => by
    unfold Lib.compareBytes
    rw [cmpB a b]
    simp only [Op.bytesLess]
    by_cases h1 : x < y
    · simp [h1]
    · by_cases h2 : y < x
      · have : x ≠ y := fun e => by subst e; exact absurd h2 (UInt8.lt_irrefl _)
        simp [h1, h2, this]
      · have e : x = y := UInt8.le_antisymm (UInt8.not_lt.1 h2) (UInt8.not_lt.1 h1)
        subst e
        simp [h1]
/-- which of two ranges is listed first -/
def ltG (a b : Rg) : Bool := decide (a.lo < b.lo) || (decide (a.lo = b.lo) && (decide (a.hi < b.hi) || (decide (a.hi = b.hi) && Op.bytesLess a.n.toList b.n.toList)))
/-- what the program's comparison answers -/
def cmpG (a b : Rg) : Int := if a.lo < b.lo then -1 else if b.lo < a.lo then 1 else if a.hi < b.hi then -1 else if b.hi < a.hi then 1 else Lib.compareBytes a.n.data.toList b.n.data.toList
theorem ltG_iff (a b : Rg) : ltG a b = true ↔ a.lo < b.lo ∨ a.lo = b.lo ∧ (a.hi < b.hi ∨ a.hi = b.hi ∧ Op.bytesLess a.n.toList b.n.toList = true) := by
  simp [ltG]
theorem ltG_not (a b : Rg) : ltG a b = false ↔ b.lo < a.lo ∨ a.lo = b.lo ∧ (b.hi < a.hi ∨ a.hi = b.hi ∧ Op.bytesLess a.n.toList b.n.toList = false) := by
  simp only [ltG, Bool.or_eq_false_iff, decide_eq_false_iff_not, Bool.and_eq_false_iff]
  constructor
  · rintro ⟨h1, h2⟩
    by_cases e : a.lo = b.lo
    · rcases h2 with h2 | ⟨h2, h3⟩
      · exact absurd e h2
      · refine .inr ⟨e, ?_⟩
        by_cases e2 : a.hi = b.hi
        · rcases h3 with h3 | h3
          · exact absurd e2 h3
          · exact .inr ⟨e2, h3⟩
        · exact .inl (by omega)
    · exact .inl (by omega)
  · rintro (h | ⟨h1, h2 | ⟨h2, h3⟩⟩)
    · exact ⟨by omega, .inl (by omega)⟩
    · exact ⟨by omega, .inr ⟨by omega, .inl (by omega)⟩⟩
    · exact ⟨by omega, .inr ⟨by omega, .inr h3⟩⟩
theorem cmpG_neg (a b : Rg) : decide (cmpG a b < 0) = ltG a b := by
  unfold cmpG ltG
  by_cases h1 : a.lo < b.lo
  · simp [h1]
  · by_cases h2 : b.lo < a.lo
    · have : ¬ a.lo = b.lo := by omega
      simp [h1, h2, this]
    · have e : a.lo = b.lo := by omega
      by_cases h3 : a.hi < b.hi
      · simp [e, h3]
      · by_cases h4 : b.hi < a.hi
        · have : ¬ a.hi = b.hi := by omega
          simp [h1, h2, h3, h4, this]
        · have e2 : a.hi = b.hi := by omega
          rw [if_neg h1, if_neg h2, if_neg h3, if_neg h4, cmpB]
          have t : ∀ x : ByteArray, x.data.toList = x.toList := fun x => (Lib.toList_data x).symm
          rw [t, t]
          cases h : Op.bytesLess a.n.toList b.n.toList
          · cases Op.bytesLess b.n.toList a.n.toList <;> simp [e, e2]
          · simp [e, e2]
theorem ltG_irrefl (a : Rg) : ltG a a = false := (ltG_not a a).2 (.inr ⟨rfl, .inr ⟨rfl, bless_irrefl _⟩⟩)
theorem ltG_trans {a b c : Rg} (h1 : ltG a b = true) (h2 : ltG b c = true) : ltG a c = true := by
  rw [ltG_iff] at *
  rcases h1 with h1 | ⟨e1, h1⟩ <;> rcases h2 with h2 | ⟨e2, h2⟩
  · exact .inl (by omega)
  · exact .inl (by omega)
  · exact .inl (by omega)
  · refine .inr ⟨by omega, ?_⟩
    rcases h1 with h1 | ⟨f1, h1⟩ <;> rcases h2 with h2 | ⟨f2, h2⟩
    · exact .inl (by omega)
    · exact .inl (by omega)
    · exact .inl (by omega)
    · exact .inr ⟨by omega, bless_trans _ _ _ h1 h2⟩
theorem bless_ntrans (a b c : List UInt8) (h1 : Op.bytesLess a b = false) (h2 : Op.bytesLess b c = false) : Op.bytesLess a c = false := by
  cases h : Op.bytesLess a c with
  | false => rfl
  | true =>
    cases h3 : Op.bytesLess c b with
    | true => rw [bless_trans _ _ _ h h3] at h1; cases h1
    | false => have := bless_tri b c h2 h3; subst this; rw [h] at h1; cases h1
theorem ltG_ntrans {a b c : Rg} (h1 : ltG a b = false) (h2 : ltG b c = false) : ltG a c = false := by
  rw [ltG_not] at *
  rcases h1 with h1 | ⟨e1, h1⟩ <;> rcases h2 with h2 | ⟨e2, h2⟩
  · exact .inl (by omega)
  · exact .inl (by omega)
  · exact .inl (by omega)
  · refine .inr ⟨by omega, ?_⟩
    rcases h1 with h1 | ⟨f1, h1⟩ <;> rcases h2 with h2 | ⟨f2, h2⟩
    · exact .inl (by omega)
    · exact .inl (by omega)
    · exact .inl (by omega)
    · exact .inr ⟨by omega, bless_ntrans _ _ _ h1 h2⟩
theorem ba_toList {a b : ByteArray} (h : a.toList = b.toList) : a = b := by
  rw [Lib.toList_data, Lib.toList_data] at h
  cases a; cases b
  simp only at h
  rw [Array.toList_inj.1 h]
/-- of two ranges of unlike names one is listed first -/
theorem ltG_tri {a b : Rg} (hn : a.n ≠ b.n) (h : ltG a b = false) : ltG b a = true := by
  rw [ltG_not] at h
  rw [ltG_iff]
  rcases h with h | ⟨e, h⟩
  · exact .inl h
  · refine .inr ⟨e.symm, ?_⟩
    rcases h with h | ⟨e2, h⟩
    · exact .inl h
    · refine .inr ⟨e2.symm, ?_⟩
      cases h2 : Op.bytesLess b.n.toList a.n.toList with
      | true => rfl
      | false => exact absurd (ba_toList (bless_tri _ _ h h2)) hn
def Srt (l : List Rg) : Prop := l.Pairwise fun a b => ltG a b = true
theorem srt_one {A B : List Rg} (hp : A.Perm B) (ha : Srt A) (hb : Srt B) : A = B :=
  List.Perm.eq_of_pairwise (fun a b _ _ h1 h2 => by have := ltG_trans h1 h2; rw [ltG_irrefl] at this; cases this) ha hb hp
def Unl (l : List Rg) : Prop := (l.map (·.n)).Nodup
theorem Unl.perm {A B : List Rg} (h : Unl A) (hp : A.Perm B) : Unl B := (hp.map (fun m : Rg => m.n)).nodup_iff.1 h
/-- a range put into its place -/
def insG (x : Rg) : List Rg → List Rg
  | [] => [x]
  | y :: l => if ltG x y then x :: y :: l else y :: insG x l
theorem ins_perm (x : Rg) : ∀ l : List Rg, (insG x l).Perm (x :: l)
  | [] => List.Perm.refl _
  | y :: l => by
    unfold insG
    split
    · exact List.Perm.refl _
    · exact ((ins_perm x l).cons y).trans (List.Perm.swap x y l)
theorem ins_srt (x : Rg) : ∀ l : List Rg, Srt l → (∀ y ∈ l, y.n ≠ x.n) → Srt (insG x l)
  | [], _, _ => by simp [insG, Srt]
  | y :: l, h, hn => by
    unfold insG
    obtain ⟨h1, h2⟩ := List.pairwise_cons.1 h
    split
    · rename_i hl
      exact List.pairwise_cons.2 ⟨fun z hz => by rcases List.mem_cons.1 hz with rfl | hz; · exact hl
                                                 · exact ltG_trans hl (h1 z hz), h⟩
    · rename_i hl
      have hl' : ltG x y = false := by simpa using hl
      refine List.pairwise_cons.2 ⟨fun z hz => ?_, ins_srt x l h2 fun z hz => hn z (by simp [hz])⟩
      rcases List.mem_cons.1 ((ins_perm x l).mem_iff.1 hz) with rfl | hz
      · exact ltG_tri (fun e => hn y (by simp) e.symm) hl'
      · exact h1 z hz
/-- looking up, by names alone -/
theorem atG_no {s : ByteArray} : ∀ {K : List Rg} {i : Nat}, atG s K i = none → ∀ m ∈ K, m.n ≠ s
  | [], _, _, _, hm => by simp at hm
  | m :: K, i, h, x, hx => by
    unfold atG at h
    split at h
    · cases h
    · rename_i hc
      rcases List.mem_cons.1 hx with rfl | hx
      · exact fun e => hc ((MapKept.bytes_beq _ _).2 e.symm)
      · exact atG_no h x hx
theorem getG_none {s : ByteArray} {K : List Rg} : getG s K = none ↔ ∀ m ∈ K, m.n ≠ s := by
  unfold getG
  rw [Option.map_eq_none_iff]
  exact ⟨atG_no, atG_none⟩
theorem getG_mem {s : ByteArray} {K : List Rg} {x : Rg} (h : getG s K = some x) : x ∈ K ∧ x.n = s := by
  unfold getG at h
  cases ha : atG s K 0 with
  | none => rw [ha] at h; cases h
  | some y =>
    rw [ha] at h
    obtain ⟨j, y⟩ := y
    cases h
    obtain ⟨_, _, h3, h4⟩ := atG_lt s K 0 j _ ha
    exact ⟨List.mem_iff_getElem?.2 ⟨_, h4⟩, h3.symm⟩
theorem unl_one {K : List Rg} (hu : Unl K) {x y : Rg} (hx : x ∈ K) (hy : y ∈ K) (h : x.n = y.n) : x = y := by
  unfold Unl at hu
  induction K with
  | nil => simp at hx
  | cons z K ih =>
    simp only [List.map_cons, List.nodup_cons] at hu
    rcases List.mem_cons.1 hx with rfl | hx' <;> rcases List.mem_cons.1 hy with rfl | hy'
    · rfl
    · exact absurd (List.mem_map.2 ⟨y, hy', h.symm⟩) hu.1
    · exact absurd (List.mem_map.2 ⟨x, hx', h⟩) hu.1
    · exact ih hu.2 hx' hy'
theorem getG_is {s : ByteArray} {K : List Rg} (hu : Unl K) {x : Rg} (hx : x ∈ K) (h : x.n = s) : getG s K = some x := by
  cases hg : getG s K with
  | none => exact absurd h (getG_none.1 hg x hx)
  | some y =>
    obtain ⟨hy, e⟩ := getG_mem hg
    rw [unl_one hu hy hx (e.trans h.symm)]
theorem getG_perm {s : ByteArray} {A B : List Rg} (hp : A.Perm B) (hu : Unl A) : getG s A = getG s B := by
  cases hg : getG s A with
  | none => exact (getG_none.2 fun m hm => getG_none.1 hg m (hp.mem_iff.2 hm)).symm
  | some y =>
    obtain ⟨hy, e⟩ := getG_mem hg
    exact (getG_is (hu.perm hp) (hp.mem_iff.1 hy) e).symm
/-- one that is taken out and put back -/
theorem del_perm {s : ByteArray} {K : List Rg} {x : Rg} (h : getG s K = some x) : K.Perm (x :: delG s K) := by
  unfold getG at h
  unfold delG
  cases ha : atG s K 0 with
  | none => rw [ha] at h; cases h
  | some y =>
    rw [ha] at h
    obtain ⟨j, y⟩ := y
    cases h
    obtain ⟨h1, h2, _, h4⟩ := atG_lt s K 0 j _ ha
    rw [Nat.sub_zero] at h4
    dsimp only
    clear ha h1 h2
    induction K generalizing j with
    | nil => simp at h4
    | cons z K ih =>
      cases j with
      | zero => simp only [List.getElem?_cons_zero, Option.some.injEq] at h4; subst h4; exact List.Perm.refl _
      | succ j =>
        simp only [List.getElem?_cons_succ] at h4
        exact ((ih j h4).cons z).trans (List.Perm.swap _ _ _)
theorem del_no {s : ByteArray} {K : List Rg} (h : getG s K = none) : delG s K = K := by
  unfold getG at h
  rw [Option.map_eq_none_iff] at h
  unfold delG
  rw [h]
theorem del_sub (s : ByteArray) (K : List Rg) : (delG s K).Sublist K := by
  unfold delG
  split
  · exact List.eraseIdx_sublist _ _
  · exact List.Sublist.refl _
theorem del_both {s : ByteArray} {A B : List Rg} (hp : A.Perm B) (hu : Unl A) : (delG s A).Perm (delG s B) := by
  have hg := getG_perm (s := s) hp hu
  cases h : getG s A with
  | none => rw [del_no h, del_no (hg ▸ h)]; exact hp
  | some x => exact ((del_perm h).symm.trans (hp.trans (del_perm (hg ▸ h)))).cons_inv
theorem del_unl {s : ByteArray} {A : List Rg} (hu : Unl A) : Unl (delG s A) := hu.sublist ((del_sub s A).map _)
theorem del_srt {s : ByteArray} {A : List Rg} (h : Srt A) : Srt (delG s A) := List.Pairwise.sublist (del_sub s A) h
theorem del_names {s : ByteArray} {A : List Rg} (hu : Unl A) : ∀ y ∈ delG s A, y.n ≠ s := by
  intro y hy e
  cases h : getG s A with
  | none => exact getG_none.1 h y ((del_sub s A).mem hy) e
  | some x =>
    have hp := hu.perm (del_perm h)
    unfold Unl at hp
    simp only [List.map_cons, List.nodup_cons] at hp
    exact hp.1 (List.mem_map.2 ⟨y, hy, e.trans (getG_mem h).2.symm⟩)
theorem put_perm (x : Rg) (A : List Rg) : (putG x A).Perm (x :: delG x.n A) := by
  unfold putG delG
  cases ha : atG x.n A 0 with
  | none => exact List.perm_append_singleton _ _
  | some y =>
    obtain ⟨j, y⟩ := y
    obtain ⟨h1, h2, _, h4⟩ := atG_lt x.n A 0 j _ ha
    rw [Nat.sub_zero] at h4
    dsimp only
    clear ha h1 h2
    induction A generalizing j with
    | nil => simp at h4
    | cons z K ih =>
      cases j with
      | zero => exact List.Perm.refl _
      | succ j =>
        simp only [List.getElem?_cons_succ] at h4
        exact ((ih j h4).cons z).trans (List.Perm.swap _ _ _)
/-- the document's list beside the map's -/
structure Rel (L D : List Rg) : Prop where
  p : D.Perm L
  s : Srt D
  u : Unl D
theorem Rel.nil : Rel [] [] := ⟨List.Perm.refl _, List.Pairwise.nil, List.nodup_nil⟩
theorem Rel.del {L D : List Rg} (h : Rel L D) (s : ByteArray) : Rel (delG s L) (delG s D) := ⟨del_both h.p h.u, del_srt h.s, del_unl h.u⟩
theorem Rel.put {L D : List Rg} (h : Rel L D) (x : Rg) : Rel (putG x L) (insG x (delG x.n D)) := by
  have hp : (insG x (delG x.n D)).Perm (x :: delG x.n D) := ins_perm _ _
  have hn := del_names (s := x.n) h.u
  refine ⟨(hp.trans ((del_both h.p h.u).cons x)).trans (put_perm x L).symm, ins_srt _ _ (del_srt h.s) hn, ?_⟩
  refine Unl.perm ?_ hp.symm
  unfold Unl
  simp only [List.map_cons, List.nodup_cons]
  refine ⟨fun hm => ?_, del_unl h.u⟩
  obtain ⟨y, hy, e⟩ := List.mem_map.1 hm
  exact hn y hy e
theorem Rel.get {L D : List Rg} (h : Rel L D) (s : ByteArray) : getG s L = getG s D := (getG_perm h.p h.u).symm
theorem Rel.len {L D : List Rg} (h : Rel L D) : L.length = D.length := h.p.length_eq.symm
/-- what a sorted permutation of some of the map's is -/
theorem Rel.some {L D E : List Rg} (h : Rel L D) (q : Rg → Bool) (hE : E.Perm (L.filter q)) (hs : E.Pairwise fun a b => ltG b a = false) : E = D.filter q := by
  have hp : E.Perm (D.filter q) := hE.trans (h.p.filter q).symm
  have hu : Unl E := Unl.perm (h.u.sublist (List.filter_sublist.map _)) hp.symm
  refine srt_one hp ?_ (List.Pairwise.sublist List.filter_sublist h.s)
  unfold Unl at hu
  rw [List.nodup_iff_pairwise_ne, List.pairwise_map] at hu
  exact (hs.and hu).imp fun ⟨h1, h2⟩ => ltG_tri (Ne.symm h2) h1
/-- ranges moved, one by one put into their places -/
def movG (f : Rg → Rg) (D : List Rg) : List Rg := D.foldl (fun o x => insG (f x) o) []
theorem mov_perm (f : Rg → Rg) : ∀ (D o : List Rg), (D.foldl (fun o x => insG (f x) o) o).Perm (o ++ D.map f)
  | [], o => by simp
  | x :: D, o => by
    rw [List.foldl_cons]
    refine (mov_perm f D _).trans ?_
    refine ((ins_perm (f x) o).append_right _).trans ?_
    simp only [List.map_cons]
    exact (List.perm_middle).symm
theorem mov_srt (f : Rg → Rg) (hf : ∀ x, (f x).n = x.n) : ∀ (D o : List Rg), Srt o → Unl (o ++ D) → Srt (D.foldl (fun o x => insG (f x) o) o)
  | [], _, h, _ => h
  | x :: D, o, h, hu => by
    rw [List.foldl_cons]
    have hu' := hu
    unfold Unl at hu'
    rw [List.map_append, List.map_cons, List.nodup_append] at hu'
    refine mov_srt f hf D _ (ins_srt _ _ h fun y hy e => ?_) ?_
    · exact hu'.2.2 y.n (List.mem_map.2 ⟨y, hy, rfl⟩) x.n (by simp) (e.trans (hf x))
    · have hp : ((insG (f x) o ++ D).map (·.n)).Perm ((o ++ x :: D).map (·.n)) := by
        have h1 := ((ins_perm (f x) o).append_right D).map (·.n)
        refine h1.trans ?_
        have h2 := (List.perm_middle (a := x) (l₁ := o) (l₂ := D)).symm.map (·.n)
        simpa [hf] using h2
      exact hp.nodup_iff.2 hu
theorem Rel.mov {L D S : List Rg} (h : Rel L D) (f : Rg → Rg) (hf : ∀ x, (f x).n = x.n) (hS : S.Perm L) : Rel (S.map f) (movG f D) := by
  have hp : (movG f D).Perm (D.map f) := by simpa [movG] using mov_perm f D []
  refine ⟨hp.trans ((h.p.trans hS.symm).map f), mov_srt f hf D [] List.Pairwise.nil (by simpa using h.u), ?_⟩
  refine Unl.perm ?_ hp.symm
  unfold Unl
  have : (D.map f).map (·.n) = D.map (·.n) := by simp [List.map_map, Function.comp_def, hf]
  rw [this]; exact h.u
end Go.Proofs.Ytifpjdodignflaa
end

section
namespace Go.Proofs.Ytifpjdodignflaa
open Go.ChangeShapes Go.WideShapes Go.ChangeAt Go.RowKit
attribute [local go_sem] Oper.semAt_some

def rgZ : Rg := ⟨⟨#[]⟩, 0, 0, 0, 0⟩
instance : Inhabited Rg := ⟨rgZ⟩
/-- a range's five cells -/
def rgL (m : Rg) : List Value := [.string m.n, .int .i64 m.lo, .int .i64 m.hi, .int .i64 m.st, .int .i64 m.en]
def rgsV (l : List Rg) : List Value := l.flatMap rgL
theorem rgL_len (m : Rg) : (rgL m).length = 5 := rfl
theorem rgsV_app (a b : List Rg) : rgsV (a ++ b) = rgsV a ++ rgsV b := by simp [rgsV]
theorem rgsV_one (x : Rg) : rgsV [x] = rgL x := by simp [rgsV]
theorem rgsV_get : ∀ (q : List Rg) (k j : Nat), k < q.length → j < 5 → (rgsV q)[k * 5 + j]? = (rgL (q.getD k rgZ))[j]?
  | [], k, _, hk, _ => absurd hk (by simp)
  | t :: ts, 0, j, _, hj => by
    rw [rgsV, List.flatMap_cons, Nat.zero_mul, Nat.zero_add, List.getElem?_append_left (by simpa [rgL] using hj)]; rfl
  | t :: ts, k + 1, j, hk, hj => by
    have ih := rgsV_get ts k j (by simpa using hk) hj
    rw [rgsV, List.flatMap_cons, List.getElem?_append_right (by simp [rgL]; omega), show (k + 1) * 5 + j - (rgL t).length = k * 5 + j by simp [rgL]; omega]
    simpa [rgsV] using ih
/-- a list of ranges that lies there -/
def IsRl (W : World) (a : Option Addr) (d : List Rg) : Prop := d = [] ∨ ∃ g off, a = some ⟨g, off, none⟩ ∧ g < W.heap.size ∧ ∀ k, k < d.length →
  W.cell? ⟨g, off + k * 5, none⟩ = some (.string (d.getD k rgZ).n) ∧ W.cell? ⟨g, off + k * 5 + 1, none⟩ = some (.int .i64 (d.getD k rgZ).lo) ∧ W.cell? ⟨g, off + k * 5 + 2, none⟩ = some (.int .i64 (d.getD k rgZ).hi) ∧ W.cell? ⟨g, off + k * 5 + 3, none⟩ = some (.int .i64 (d.getD k rgZ).st) ∧ W.cell? ⟨g, off + k * 5 + 4, none⟩ = some (.int .i64 (d.getD k rgZ).en)
theorem IsRl.below {W W' : World} {B : Nat} {a : Option Addr} {d : List Rg} (h : IsRl W a d) (hb : Below B W W') (hB : W.heap.size ≤ B) : IsRl W' a d := by
  rcases h with h | ⟨g, off, rfl, hg, hc⟩
  · exact Or.inl h
  · refine Or.inr ⟨g, off, rfl, Nat.lt_of_lt_of_le hg hb.size, fun k hk => ?_⟩
    obtain ⟨c0, c1, c2, c3, c4⟩ := hc k hk
    exact ⟨(hb.cell (p := ⟨g, off + k * 5, none⟩) (by show g < B; omega)).trans c0, (hb.cell (p := ⟨g, off + k * 5 + 1, none⟩) (by show g < B; omega)).trans c1, (hb.cell (p := ⟨g, off + k * 5 + 2, none⟩) (by show g < B; omega)).trans c2, (hb.cell (p := ⟨g, off + k * 5 + 3, none⟩) (by show g < B; omega)).trans c3, (hb.cell (p := ⟨g, off + k * 5 + 4, none⟩) (by show g < B; omega)).trans c4⟩
theorem IsRl.five {W : World} {a : Option Addr} {d : List Rg} (h : IsRl W a d) {k : Nat} (hk : k < d.length) : ∃ g off, a = some ⟨g, off, none⟩ ∧ g < W.heap.size ∧
    W.cell? ⟨g, off + k * 5, none⟩ = some (.string (d.getD k rgZ).n) ∧ W.cell? ⟨g, off + k * 5 + 1, none⟩ = some (.int .i64 (d.getD k rgZ).lo) ∧ W.cell? ⟨g, off + k * 5 + 2, none⟩ = some (.int .i64 (d.getD k rgZ).hi) ∧ W.cell? ⟨g, off + k * 5 + 3, none⟩ = some (.int .i64 (d.getD k rgZ).st) ∧ W.cell? ⟨g, off + k * 5 + 4, none⟩ = some (.int .i64 (d.getD k rgZ).en) := by
  rcases h with h | ⟨g, off, rfl, hg, hc⟩
  · rw [h] at hk; simp at hk
  · exact ⟨g, off, rfl, hg, hc k hk⟩
theorem own_isRl {W : World} {B : Nat} {v : Value} {d : List Rg} (h : W.ownsRow B 37 5 v d.length (rgsV d)) : ∃ a c, v = .slice a d.length c ∧ IsRl W a d ∧ d.length ≤ c := by
  have hh := h
  rcases h.2 with ⟨rfl, h0⟩ | ⟨g, cap, cur, rfl, hB, hg, hc, hm, hs, ht⟩
  · have : d = [] := List.length_eq_zero_iff.1 h0
    exact ⟨none, 0, by rw [h0], Or.inl this, by omega⟩
  · refine ⟨some ⟨g, 0, none⟩, cap, rfl, Or.inr ⟨g, 0, rfl, (Array.getElem?_eq_some_iff.1 hg).1, fun k hk => ?_⟩, hc⟩
    have f : ∀ j, j < 5 → W.cell? ⟨g, 0 + (k * 5 + j), none⟩ = (rgL (d.getD k rgZ))[j]? := fun j hj => by
      have e := rgsV_get d k j hk hj
      obtain ⟨u, hu⟩ : ∃ u, (rgL (d.getD k rgZ))[j]? = some u := ⟨_, List.getElem?_eq_getElem (by simpa [rgL] using hj)⟩
      rw [hu] at e ⊢
      have := World.ownsRow.cells hh rfl (k * 5 + j) u e
      rwa [Addr.add_lit] at this
    exact ⟨f 0 (by decide), f 1 (by decide), f 2 (by decide), f 3 (by decide), f 4 (by decide)⟩
theorem rowD_base {X : World} {B B' sz n : Nat} {t : TypeId} {v : Value} {xs : List Value} (h : X.ownsRow B t sz v n xs) (hB : B' ≤ B) : X.ownsRow B' t sz v n xs := by
  refine ⟨h.1, ?_⟩
  rcases h.2 with h2 | ⟨g, cap, cur, e, h3, h4⟩
  · exact Or.inl h2
  · exact Or.inr ⟨g, cap, cur, e, Nat.le_trans hB h3, h4⟩
set_option maxRecDepth 100000 in
theorem info_rg : ∃ i, Try.prog.info? 37 = some i ∧ i.zero = some (.agg #[.string ⟨#[]⟩, .int .i64 0, .int .i64 0, .int .i64 0, .int .i64 0]) ∧ i.size = 5 ∧ i.bytes = 48 := by
  refine ⟨_, rfl, ?_, ?_, ?_⟩ <;> rfl
theorem five_nw (W : World) (v0 v1 v2 v3 v4 : Value) {t : TypeId} :
    (W.alloc (.cells #[v0, v1, v2, v3, v4] t)).cell? ⟨W.heap.size, 0, none⟩ = some v0 ∧ (W.alloc (.cells #[v0, v1, v2, v3, v4] t)).cell? ⟨W.heap.size, 1, none⟩ = some v1 ∧ (W.alloc (.cells #[v0, v1, v2, v3, v4] t)).cell? ⟨W.heap.size, 2, none⟩ = some v2 ∧ (W.alloc (.cells #[v0, v1, v2, v3, v4] t)).cell? ⟨W.heap.size, 3, none⟩ = some v3 ∧ (W.alloc (.cells #[v0, v1, v2, v3, v4] t)).cell? ⟨W.heap.size, 4, none⟩ = some v4 := by
  have k := Cls.new W t #[v0, v1, v2, v3, v4]
  exact ⟨(k.cell 0).trans rfl, (k.cell 1).trans rfl, (k.cell 2).trans rfl, (k.cell 3).trans rfl, (k.cell 4).trans rfl⟩
/-- one more range -/
theorem push_rg (W : World) (B n : Nat) (v : Value) (xs : List Value) (s : ByteArray) (a b c e : Int) (ty : TypeId) (h : W.ownsRow B 37 5 v n xs) (hn : n ≤ 1099511627776) (hB : B ≤ W.heap.size) :
    ∃ g k W', (Builtin.append_ #[28, 28] ty #[v, .slice (some ⟨W.heap.size, 0, none⟩) 1 1]).run Try.prog (W.alloc (.cells #[.string s, .int .i64 a, .int .i64 b, .int .i64 c, .int .i64 e] 37)) = .ok (.slice (some ⟨g, 0, none⟩) (n + 1) k) W' ∧
      W'.ownsRow B 37 5 (.slice (some ⟨g, 0, none⟩) (n + 1) k) (n + 1) (xs ++ [.string s, .int .i64 a, .int .i64 b, .int .i64 c, .int .i64 e]) ∧ W.grownBy W' v.ownBlock ∧ Below B W W' := by
  obtain ⟨i, hi, hz, hs, hby⟩ := info_rg
  have hr := World.ownsRow.alloc h (.cells #[.string s, .int .i64 a, .int .i64 b, .int .i64 c, .int .i64 e] 37)
  obtain ⟨c0, c1, c2, c3, c4⟩ := five_nw W (.string s) (.int .i64 a) (.int .i64 b) (.int .i64 c) (.int .i64 e) (t := 37)
  obtain ⟨g, k, W', hrun, ho, hg, _, _⟩ := run_append_lies (P := Try.prog) (W.alloc (.cells #[.string s, .int .i64 a, .int .i64 b, .int .i64 c, .int .i64 e] 37)) 28 ty B 37 i (.agg #[.string ⟨#[]⟩, .int .i64 0, .int .i64 0, .int .i64 0, .int .i64 0]) 5 48 Try.underlying28 hi hz hs hby rfl (by decide)
    v n xs hr ⟨W.heap.size, 0, none⟩ 1 1 [.string s, .int .i64 a, .int .i64 b, .int .i64 c, .int .i64 e] rfl
    (fun j u hj => by
      match j with
      | 0 => simp at hj; subst hj; rw [Addr.add_lit]; exact c0
      | 1 => simp at hj; subst hj; rw [Addr.add_lit]; exact c1
      | 2 => simp at hj; subst hj; rw [Addr.add_lit]; exact c2
      | 3 => simp at hj; subst hj; rw [Addr.add_lit]; exact c3
      | 4 => simp at hj; subst hj; rw [Addr.add_lit]; exact c4
      | j + 5 => simp at hj)
    (fun u hu => by simp at hu; rcases hu with rfl | rfl | rfl | rfl | rfl <;> rfl) (by decide) (by unfold maxLen; omega) (by omega) (by simp; omega) _ rfl
  have ha := World.grownBy_alloc W (.cells #[.string s, .int .i64 a, .int .i64 b, .int .i64 c, .int .i64 e] 37) none
  refine ⟨g, k, W', hrun, ho, ⟨hg.os.trans ha.os, hg.tape.trans ha.tape, hg.output.trans ha.output, Nat.le_trans ha.size hg.size, fun k hk hne => ?_⟩, ((Below.refl B W).alloc hB _).grown hg (by simp; omega) (fun k hk => (hr.lt k hk).1)⟩
  exact (hg.block k (Nat.lt_of_lt_of_le hk ha.size) hne).trans (ha.block k hk (by simp))
end Go.Proofs.Ytifpjdodignflaa
end
