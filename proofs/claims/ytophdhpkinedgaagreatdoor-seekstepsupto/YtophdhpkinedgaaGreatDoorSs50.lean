/- SeekSteps' walk. -/
import Derived.Test.YtophdhpkinedgaaGreatDoorSs49

namespace Go.Proofs.YtophdhpkinedgaaGreatDoor
open Go.ChangeShapes Go.WideShapes Go.ChangeAt Go.RowKit
attribute [local go_sem] Oper.semAt_some

theorem flat_bulk (ls : List (List Int)) : ls.flatten.length = bulkL ls := by simp [bulkL, List.length_flatten]
/-- the bytes' string of a whole step is its rune's -/
theorem conv_step {X : World} {gb off bc : Nat} {T : List Int} {f : Nat} (hN : IsN X (some ⟨gb, off, none⟩) bc T) (hf : f + wid (T.drop f) ≤ T.length) (he : enc (first (T.drop f)).1 = (T.drop f).take (wid (T.drop f))) :
    (convert 30 9 (.slice (some ⟨gb, off + f, none⟩) (wid (T.drop f)) (bc - f))).run Tryz.prog X = .ok (.string (Utf8.encode (first (T.drop f)).1)) X := by
  rw [utf8_encS, he]
  have hl : ((T.drop f).take (wid (T.drop f))).length = wid (T.drop f) := by rw [List.length_take, List.length_drop]; omega
  have hLi : Lies X gb (off + f) ((T.drop f).take (wid (T.drop f))) := by
    rcases hN.1.2.2.1 with h | ⟨g', o', e', hL⟩
    · rw [h]; intro j hj; simp at hj
    · cases e'
      intro j hj
      rw [hl] at hj
      have h1 := hL (f + j) (by omega)
      have e2 : ((T.drop f).take (wid (T.drop f))).getD j 0 = T.getD (f + j) 0 := by
        rw [List.getD_eq_getElem?_getD, List.getElem?_take, if_pos hj, List.getElem?_drop, ← List.getD_eq_getElem?_getD]
      rw [e2, Nat.add_assoc]
      exact h1
  have := str_lies X gb (off + f) (bc - f) _ hLi
  rw [hl] at this
  exact this
theorem sn_ne {sn : Nat} {r : Int} (h : ¬ (r = r ∧ sn = 1)) : ((sn : Int) == 1) = false := by
  simp only [true_and] at h
  simp
  omega
theorem beq_ne {p q : Nat} (h : ¬ p = q) : ((p : Int) == (q : Int)) = false := by simp; omega
theorem cast_add (f sn : Nat) : Value.int .i64 ((f : Int) + (sn : Int)) = Value.int .i64 ((f + sn : Nat) : Int) := by push_cast; rfl
theorem cast_one_add (f : Nat) : Value.int .i64 ((f : Int) + 1) = Value.int .i64 ((f + 1 : Nat) : Int) := by push_cast; rfl
theorem meas_lt {p N : Nat} (c : p < N) : N - (intOf (Value.int .i64 ((p : Int) + 1))).toNat < N - (intOf (Value.int .i64 (p : Int))).toNat := by simp only [intOf]; omega
theorem st_arith {p f sn N bc : Nat} (c : p < N) (hfp : f ≤ p) (hps : p - f < sn) (hfs : f + sn ≤ N) (hbc : N ≤ bc) (hb4 : N ≤ 1048576) :
    decide ((f : Int) < 0) = false ∧ decide ((p : Int) < (f : Int)) = false ∧ decide (p < f) = false ∧ decide ((sn : Int) < 1) = false ∧ wrap64 ((p : Int) - (f : Int)) = (p : Int) - (f : Int) ∧ decide ((sn : Int) ≤ (p : Int) - (f : Int)) = false ∧ decide ((p : Int) - (f : Int) ≥ (sn : Int)) = false ∧
    wrap64 ((p : Int) + 1) = (p : Int) + 1 ∧ wrap64 ((f : Int) + (sn : Int)) = (f : Int) + (sn : Int) ∧ min ((f : Int) + (sn : Int)) (N : Int) = (f : Int) + (sn : Int) ∧ ¬ bc = f ∧ f + sn ≤ bc ∧ f ≤ f + sn ∧ IntKind.i64.wrap ((f : Int) + (sn : Int)) = (f : Int) + (sn : Int) ∧ (0 : Int) ≤ (f : Int) + (sn : Int) ∧ (f : Int) + (sn : Int) ≤ (bc : Int) ∧ ((f : Int) + (sn : Int)).toNat = f + sn :=
  ⟨decide_eq_false (by omega), decide_eq_false (by omega), decide_eq_false (by omega), decide_eq_false (by omega), wrap_in _ (by omega) (by omega), decide_eq_false (by omega), decide_eq_false (by omega), wrap_in _ (by omega) (by omega), wrap_in _ (by omega) (by omega), by omega, by omega, by omega, by omega, (IntKind.wrap_i64 _).trans (by omega), by omega, by omega, by omega⟩
/-- what is answered at a place, and what holds of it -/
structure StF (g N : Nat) (T : List Int) (bc : Nat) (w4 : World) (p f : Nat) (sr : Int) (sn : Nat) (sb : Bool) (r2 u3 : Int) : Prop where
  fp : f ≤ p
  ps : p - f < sn
  fs : f + sn ≤ N
  kind : (sb = true ∧ ¬ (sr = 65533 ∧ sn = 1)) ∨ (sb = false ∧ sn = 1 ∧ sr = 65533)
  nx : ∀ at', AtI T p at' → (p = at' ∧ f = p ∧ AtI T (p + 1) (p + sn)) ∨ (¬ p = at' ∧ AtI T (p + 1) at')
  cv : sb = true → ∀ X gb off, IsN X (some ⟨gb, off, none⟩) bc T → (convert 30 9 (.slice (some ⟨gb, off + f, none⟩) sn (bc - f))).run Tryz.prog X = .ok (.string (Utf8.encode sr)) X
  f1 : ∀ X, Below w4.heap.size w4 X → Calls Tryz.prog 27 #[.pointer (some ⟨g, 0, none⟩), .int .i64 (p : Int)] X fun y w' => y = .returned (.tuple #[.int .i64 (f : Int), .int .i64 0]) ∧ Below X.heap.size X w'
  f2 : ∀ X, Below w4.heap.size w4 X → Calls Tryz.prog 27 #[.pointer (some ⟨g, 0, none⟩), .int .i64 (f : Int)] X fun y w' => y = .returned (.tuple #[.int .i64 (f : Int), .int .i64 0]) ∧ Below X.heap.size X w'
  s1 : ∀ X, Below w4.heap.size w4 X → Calls Tryz.prog 28 #[.pointer (some ⟨g, 0, none⟩), .int .i64 (p : Int)] X fun y w' => y = .returned (.tuple #[.int .i64 (f : Int), .agg #[.int .i32 sr, .int .i64 (sn : Int), .bool sb], .int .i64 0]) ∧ Below X.heap.size X w'
  w1 : ∀ X, Below w4.heap.size w4 X → Calls Tryz.prog 18 #[.pointer (some ⟨g, 0, none⟩), .int .i64 (p : Int)] X fun y w' => (∃ c3 c4 c5 c6 : Int, y = .returned (.tuple #[.agg #[.int .i64 (f : Int), .int .i64 r2, .int .i64 u3, .int .i64 c3, .int .i64 c4, .int .i64 c5, .int .i64 c6], .int .i64 0])) ∧ Below X.heap.size X w'
  t2 : ∀ X, Below w4.heap.size w4 X → Calls Tryz.prog 16 #[.pointer (some ⟨g, 0, none⟩), .int .i64 1, .int .i64 (p : Int), .int .i64 2, .int .i64 1] X fun y w' => y = .returned (.tuple #[.int .i64 r2, .int .i64 0]) ∧ Below X.heap.size X w'
  t3 : ∀ X, Below w4.heap.size w4 X → Calls Tryz.prog 16 #[.pointer (some ⟨g, 0, none⟩), .int .i64 1, .int .i64 (p : Int), .int .i64 3, .int .i64 1] X fun y w' => y = .returned (.tuple #[.int .i64 u3, .int .i64 0]) ∧ Below X.heap.size X w'
set_option maxRecDepth 100000 in
set_option maxHeartbeats 8000000 in
theorem SeekSteps_any (a0 : Option Addr) (cap : Nat) (ls : List (List Int)) (w : World) (h : IsNN w a0 ls) (hs : bulkL ls + ls.length ≤ 1048576) (hW : Wt w) :
    Calls Tryz.prog 6 #[.slice a0 ls.length cap] w fun y w' => y = .returned (.bool true) ∧ Below w.heap.size w w' := by
  have hfl : ls.flatten.length ≤ 1048576 := by rw [flat_bulk]; omega
  have hll : ls.length ≤ 1048576 := by omega
  have HW := hide fun (X : World) (hx : Below w.heap.size w X) => hW.below hx
  have HP := hide fun (X : World) (hx : Below w.heap.size w X) => h.below hx (Nat.le_refl _)
  have HLS := hide (And.intro hfl hll)
  clear h hs hW hfl hll
  go_enter Tryz.func6, Tryz.ntmps6
  go_wp2_with fail
  refine (awake10_at w (unhide HW w (Below.refl _ _))).mono ?_
  rintro y w1 ⟨rfl, x1⟩
  dsimp only
  have HJ := hide (Joined10_at a0 cap ls w1 (unhide HP w1 x1) (by have := unhide HLS; omega) (by have := unhide HLS; omega))
  go_wp2_with fail
  refine (unhide HJ).mono ?_
  rintro y w2 ⟨v, rfl, ho, x2⟩
  dsimp only
  have X2 := x1.trans (x2.mono x1.size)
  have hyb : ∀ x ∈ ls.flatten, 0 ≤ x ∧ x ≤ 255 := by
    intro x hx
    obtain ⟨l, hl, hxl⟩ := List.mem_flatten.1 hx
    obtain ⟨k, hk, rfl⟩ := List.mem_iff_getElem.1 hl
    rcases unhide HP w (Below.refl _ _) with hnil | ⟨ga, off, _, _, hrow⟩
    · rw [hnil] at hk; exact absurd hk (Nat.not_lt_zero _)
    · obtain ⟨A, C, _, hN⟩ := hrow k hk
      have e : ls.getD k [] = ls[k] := by rw [List.getD_eq_getElem?_getD, List.getElem?_eq_getElem hk]; rfl
      rw [e] at hN
      exact hN.1.2.2.2 x hxl
  obtain ⟨ba, bc, rfl, hN2⟩ := own_isNS ho hyb (by have := unhide HLS; omega)
  clear HJ ho x1 x2
  obtain ⟨T, hT⟩ : ∃ T, T = ls.flatten := ⟨_, rfl⟩
  obtain ⟨N, hN⟩ : ∃ N, N = T.length := ⟨_, rfl⟩
  rw [← hT] at hN2 hyb
  rw [← hT, ← hN]
  have hN20 : N ≤ 1048576 := by have := unhide HLS; rw [hN, hT]; exact this.1
  have HLa := hide (Large10_at ba N bc w2 (by omega))
  have HI2 := hide hN2
  have HYB := hide hyb
  have HTT := hide (And.intro hT (And.intro hN hN20))
  clear hN2 hyb hT hN hN20
  go_wp2_with fail
  refine (unhide HLa).mono ?_
  rintro y w3 ⟨rfl, x3⟩
  dsimp only
  have X3 := X2.trans (x3.mono X2.size)
  by_cases hlg : 400 < N
  · have d1 : decide (400 < N) = true := decide_eq_true hlg
    rw [d1]
    go_wp2_with fail
    go_ret
    exact ⟨rfl, X3⟩
  · have d1 : decide (400 < N) = false := decide_eq_false hlg
    rw [d1]
    have HRo := hide (Rope10_at a0 cap ls w3 (unhide HP w3 X3) (by have := unhide HLS; omega) (by have := unhide HLS; omega) (unhide HW w3 X3))
    have HNB := hide hlg
    clear HLa d1 hlg X2
    go_wp2_with fail
    refine (unhide HRo).mono ?_
    rintro y w4 ⟨g, o, rfl, hr, ht, x4⟩
    dsimp only
    have X4 := X3.trans (x4.mono X3.size)
    have htT : txtO o = T := by rw [ht, (unhide HTT).1]
    have hm : (txtO o).length ≤ 268435456 := by rw [htT, ← (unhide HTT).2.1]; have := (unhide HTT).2.2; omega
    have HIB := hide fun (X : World) (hx : Below w4.heap.size w4 X) => (((unhide HI2).below x3 (Nat.le_refl _)).below x4 (Nat.le_refl _)).below hx (Nat.le_refl _)
    have HFl : Hid (∀ (q : Nat) X, q ≤ N → Below w4.heap.size w4 X → Calls Tryz.prog 27 #[.pointer (some ⟨g, 0, none⟩), .int .i64 (q : Int)] X fun y w' => y = .returned (.tuple #[.int .i64 (flr T q : Int), .int .i64 0]) ∧ Below X.heap.size X w') := hide fun q X hq hx => by
      have := Floor10_at g o (q : Int) X (hr.on hx) (by rw [htT]; exact unhide HYB) hm (unhide HW X (X4.trans (hx.mono X4.size)))
      unfold floorV at this
      rw [htT, if_neg (by rw [← (unhide HTT).2.1]; omega), Int.toNat_natCast] at this
      exact this
    have HSt : Hid (∀ (q : Nat) X, q < N → Below w4.heap.size w4 X → Calls Tryz.prog 28 #[.pointer (some ⟨g, 0, none⟩), .int .i64 (q : Int)] X fun y w' => y = .returned (.tuple #[.int .i64 (flr T q : Int), .agg #[.int .i32 (first (T.drop (flr T q))).1, .int .i64 (wid (T.drop (flr T q)) : Int), .bool (whl (T.drop (flr T q)))], .int .i64 0]) ∧ Below X.heap.size X w') := hide fun q X hq hx => by
      have := Step10_at g o (q : Int) X (hr.on hx) hm (unhide HW X (X4.trans (hx.mono X4.size)))
      unfold stV10 at this
      rw [htT, if_neg (by rw [← (unhide HTT).2.1]; omega), Int.toNat_natCast, stp_eq] at this
      exact this
    have HSE : Hid (∀ X, Below w4.heap.size w4 X → Calls Tryz.prog 28 #[.pointer (some ⟨g, 0, none⟩), .int .i64 (N : Int)] X fun y w' => y = .returned (.tuple #[.int .i64 0, .agg #[.int .i32 0, .int .i64 0, .bool false], .int .i64 2]) ∧ Below X.heap.size X w') := hide fun X hx => by
      have := Step10_at g o (N : Int) X (hr.on hx) hm (unhide HW X (X4.trans (hx.mono X4.size)))
      unfold stV10 at this
      rw [htT, if_pos (by rw [← (unhide HTT).2.1]; omega)] at this
      exact this
    have HWh : Hid (∀ (q : Nat) X, q ≤ N → Below w4.heap.size w4 X → Calls Tryz.prog 18 #[.pointer (some ⟨g, 0, none⟩), .int .i64 (q : Int)] X fun y w' => (∃ c3 c4 c5 c6 : Int, y = .returned (.tuple #[.agg #[.int .i64 (flr T q : Int), .int .i64 (szE 2 (T.take (flr T q)) : Int), .int .i64 (szE 3 (T.take (flr T q)) : Int), .int .i64 c3, .int .i64 c4, .int .i64 c5, .int .i64 c6], .int .i64 0])) ∧ Below X.heap.size X w') := hide fun q X hq hx => by
      have := Where10_at g o (q : Int) X (hr.on hx) hm (unhide HW X (X4.trans (hx.mono X4.size)))
      unfold whV whC at this
      rw [htT, if_neg (by rw [← (unhide HTT).2.1]; omega), Int.toNat_natCast] at this
      refine this.mono ?_
      rintro y w' ⟨rfl, b⟩
      exact ⟨⟨_, _, _, _, rfl⟩, b⟩
    have HTo : Hid (∀ (q : Nat) (t : Int) X, q ≤ N → isRu t = true → Below w4.heap.size w4 X → Calls Tryz.prog 16 #[.pointer (some ⟨g, 0, none⟩), .int .i64 1, .int .i64 (q : Int), .int .i64 t, .int .i64 1] X fun y w' => y = .returned (.tuple #[.int .i64 (szE t (T.take (flr T q)) : Int), .int .i64 0]) ∧ Below X.heap.size X w') := hide fun q t X hq hru hx => by
      have := To10_at g o 1 (q : Int) t 1 X (hr.on hx) hm (unhide HW X (X4.trans (hx.mono X4.size))) (by rw [hru]; rfl) (fun Y _ h => absurd rfl h)
      obtain ⟨t1, t2⟩ := to_down (T := T) (unhide HYB) (p := q) (by rw [← (unhide HTT).2.1]; exact hq) hru
      rw [htT, t1, t2] at this
      exact this
    have HPK : Hid (∀ p, p < N → ∃ f sr sn sb r2 u3, StF g N T bc w4 p f sr sn sb r2 u3) := hide fun p c => by
      have hNT := (unhide HTT).2.1
      have hes := enc_stepS (unhide HYB) (p := flr T p) (by have := flr_le T p; omega)
      have hwl := wid_len (l := T) (p := flr T p) (by have := flr_le T p; omega)
      have hff : flr T (flr T p) = flr T p := flr_eq (flr_edge T p)
      refine ⟨flr T p, (first (T.drop (flr T p))).1, wid (T.drop (flr T p)), whl (T.drop (flr T p)), (szE 2 (T.take (flr T p)) : Int), (szE 3 (T.take (flr T p)) : Int), flr_le T p, flr_in_step (by omega), by omega, ?_, fun at' ha => ?_, fun hb X gb off hI => ?_, fun X hx => unhide HFl p X (by omega) hx, fun X hx => ?_, fun X hx => unhide HSt p X c hx, fun X hx => unhide HWh p X (by omega) hx, fun X hx => unhide HTo p 2 X (by omega) rfl hx, fun X hx => unhide HTo p 3 X (by omega) rfl hx⟩
      · rcases hes with ⟨a, _, b⟩ | h
        · exact .inl ⟨a, b⟩
        · exact .inr h
      · rcases ha.next (by omega) with ⟨a, b, d⟩ | d
        · exact .inl ⟨a, b, by rw [b]; exact d⟩
        · exact .inr d
      · rcases hes with ⟨_, a, _⟩ | ⟨a, _⟩
        · exact conv_step hI (by omega) a
        · rw [a] at hb; cases hb
      · have := unhide HFl (flr T p) X (by have := flr_le T p; omega) hx
        rw [hff] at this
        exact this
    have HFN : Hid (∀ X, Below w4.heap.size w4 X → Calls Tryz.prog 27 #[.pointer (some ⟨g, 0, none⟩), .int .i64 (N : Int)] X fun y w' => y = .returned (.tuple #[.int .i64 (N : Int), .int .i64 0]) ∧ Below X.heap.size X w') := hide fun X hx => by
      have := unhide HFl N X (Nat.le_refl _) hx
      have e : flr T N = N := by rw [(unhide HTT).2.1]; exact flr_eq (edge_len T)
      rw [e] at this
      exact this
    clear HFl HSt HWh HTo
    clear hr ht htT hm x3 x4 HRo HI2
    have i0 : AtI T 0 0 := AtI.start T
    have HX4 := hide X4
    clear X3 X4
    go_wp2_with fail
    go_loopw [5, 6, 7, 8, 9, 10, 11, 12, 13, 14, 15, 16, 17, 18, 19] (fun v5 v6 v7 v8 v9 v10 v11 v12 v13 v14 v15 v16 v17 v18 v19 wx => (∃ z, v7 = z) ∧ (∃ z, v8 = z) ∧ (∃ z, v9 = z) ∧ (∃ z, v10 = z) ∧ (∃ z, v11 = z) ∧ (∃ z, v12 = z) ∧ (∃ z, v13 = z) ∧ (∃ z, v14 = z) ∧ (∃ z, v15 = z) ∧ (∃ z, v16 = z) ∧ (∃ z, v17 = z) ∧ (∃ z, v18 = z) ∧ (∃ z, v19 = z) ∧ ∃ (p at' : Nat), v5 = .int .i64 (at' : Int) ∧ v6 = .int .i64 (p : Int) ∧ p ≤ N ∧ Hid (AtI T p at') ∧ Hid (Below w4.heap.size w4 wx)) (fun _ v6 _ _ _ _ _ _ _ _ _ _ _ _ _ _ => N - (intOf v6).toNat)
    case atStart => exact ⟨⟨_, rfl⟩, ⟨_, rfl⟩, ⟨_, rfl⟩, ⟨_, rfl⟩, ⟨_, rfl⟩, ⟨_, rfl⟩, ⟨_, rfl⟩, ⟨_, rfl⟩, ⟨_, rfl⟩, ⟨_, rfl⟩, ⟨_, rfl⟩, ⟨_, rfl⟩, ⟨_, rfl⟩, 0, 0, rfl, rfl, Nat.zero_le _, hide i0, hide (Below.refl _ _)⟩
    case round =>
      clear i0
      obtain ⟨⟨z7, rfl⟩, ⟨z8, rfl⟩, ⟨z9, rfl⟩, ⟨z10, rfl⟩, ⟨z11, rfl⟩, ⟨z12, rfl⟩, ⟨z13, rfl⟩, ⟨z14, rfl⟩, ⟨z15, rfl⟩, ⟨z16, rfl⟩, ⟨z17, rfl⟩, ⟨z18, rfl⟩, ⟨z19, rfl⟩, p, at', rfl, rfl, hp, HA, HD⟩ := hrel
      by_cases c : p < N
      · have c1 : decide ((p : Int) < (N : Int)) = true := decide_eq_true (by omega)
        obtain ⟨f, sr, sn, sb, r2, u3, hst⟩ := unhide HPK p c
        have hNT := (unhide HTT).2.1
        obtain ⟨gb, off, rfl⟩ : ∃ gb off, ba = some ⟨gb, off, none⟩ := by
          rcases (unhide HIB wr (unhide HD)).1.2.2.1 with h0 | ⟨gb, off, e, _⟩
          · rw [h0] at hNT; simp at hNT; omega
          · exact ⟨gb, off, e⟩
        have hbc : N ≤ bc := by rw [hNT]; exact (unhide HIB wr (unhide HD)).1.1
        have HNX := hide (hst.nx at' (unhide HA))
        have hatl := (unhide HA).len
        have hfp := hst.fp
        have hps := hst.ps
        have hfs := hst.fs
        have hb4 : N ≤ 1048576 := (unhide HTT).2.2
        obtain ⟨e1, e2, e2', e3, e4, e5, e5', e6, e7, e8, e9, e10, e11, e12, e13, e14, e15⟩ := st_arith c hfp hps hfs hbc hb4
        have HBD := hide (And.intro hb4 (And.intro hatl (And.intro hNT hfs)))
        have HF1 := hide (hst.f1 wr (unhide HD))
        have HS := hide hst
        clear hst hNT hbc hatl hfp hps hfs hb4
        go_wp2_with fail
        refine (unhide HF1).mono ?_
        rintro y v1 ⟨rfl, x1⟩
        dsimp only
        have F1 := (unhide HD).trans (x1.mono (unhide HD).size)
        clear HF1 x1
        go_wp2_with fail
        refine ((unhide HS).f2 v1 F1).mono ?_
        rintro y v2 ⟨rfl, x2⟩
        dsimp only
        have F2 := F1.trans (x2.mono F1.size)
        clear x2 F1
        go_wp2_with fail
        refine ((unhide HS).s1 v2 F2).mono ?_
        rintro y v2' ⟨rfl, x3⟩
        dsimp only
        have F3 := F2.trans (x3.mono F2.size)
        clear x3 F2
        go_upto_region 16 with fail
        rcases (unhide HS).kind with ⟨rfl, hnb⟩ | ⟨rfl, hn1, rfl⟩
        · have x3 := (Below.refl v2'.heap.size v2').alloc (Nat.le_refl _) (.cells #[.int .i32 sr, .int .i64 (sn : Int), .bool true] 68)
          have g3 := push_get v2' (.cells #[.int .i32 sr, .int .i64 (sn : Int), .bool true] 68)
          generalize v2'.alloc (.cells #[.int .i32 sr, .int .i64 (sn : Int), .bool true] 68) = v3 at *
          have F4 := F3.trans (x3.mono F3.size)
          clear x3 F3
          generalize v2'.heap.size = gS at *
          obtain ⟨q0, q1, q2, _⟩ := cells3S g3
          have HSW := hide fun (X : World) (hx : Below v3.heap.size v3 X) => And.intro (cells3S (bk9_on g3 hx)).1 (And.intro (cells3S (bk9_on g3 hx)).2.1 (And.intro (cells3S (bk9_on g3 hx)).2.2.1 ((unhide HS).cv rfl X gb off (unhide HIB X (F4.trans (hx.mono F4.size))))))
          have HG3 := hide fun (X : World) (hx : Below v3.heap.size v3 X) => cells3S (bk9_on g3 hx)
          have E0 : Below v3.heap.size v3 v3.drew := (Below.refl _ _).drew
          clear g3
          by_cases hs5 : sr = 65533
          · subst hs5
            have b1 : ((sn : Int) == 1) = false := sn_ne hnb
            clear hnb
            go_upto_region 18 with fail
            refine regionL (S := fun w' => w'.cell? ⟨gS, 0, none⟩ = some (.int .i32 65533) ∧ w'.cell? ⟨gS, 1, none⟩ = some (.int .i64 (sn : Int)) ∧ w'.cell? ⟨gS, 2, none⟩ = some (.bool true) ∧ (convert 30 9 (.slice (some ⟨gb, off + f, none⟩) sn (bc - f))).run Tryz.prog w' = .ok (.string (Utf8.encode 65533)) w') (fun _ => false) (by kernel_rfl) ?_
            generalize hy0 : v3.drew = y0 at *
            refine anyL_take (i := 0) (v := ?vssb0) rfl (by kernel_rfl) (by kernel_rfl) (by kernel_rfl) (by kernel_rfl) (fun _ _ _ h => h) (Or.inl ⟨by rfl, ?hssb0⟩) (unhide HSW _ E0) ?_
            case hssb0 => (intro w hSw; (try dsimp only at hSw); go_simp) <;> with_reducible rfl
            simp only [Act.put, List.getElem_toArray, List.getElem_cons_zero, List.setIfInBounds_toArray, List.set_cons_zero, List.set_cons_succ]
            refine anyL_take (i := 1) (v := ?vssb1) rfl (by kernel_rfl) (by kernel_rfl) (by kernel_rfl) (by kernel_rfl) (fun _ _ _ h => h) (Or.inl ⟨by rfl, ?hssb1⟩) (unhide HSW _ E0) ?_
            case hssb1 => (intro w hSw; (try dsimp only at hSw); go_simp) <;> with_reducible rfl
            simp only [Act.put, List.getElem_toArray, List.getElem_cons_zero, List.getElem_cons_succ, List.setIfInBounds_toArray, List.set_cons_zero, List.set_cons_succ]
            refine anyL_take (i := 2) (v := ?vssb2) rfl (by kernel_rfl) (by kernel_rfl) (by kernel_rfl) (by kernel_rfl) (fun _ _ _ h => h) (Or.inl ⟨by rfl, ?hssb2⟩) (unhide HSW _ E0) ?_
            case hssb2 => (intro w hSw; (try dsimp only at hSw); go_simp) <;> with_reducible rfl
            simp only [Act.put, List.getElem_toArray, List.getElem_cons_zero, List.getElem_cons_succ, List.setIfInBounds_toArray, List.set_cons_zero, List.set_cons_succ]
            refine anyL_take (i := 3) (v := ?vssb3) rfl (by kernel_rfl) (by kernel_rfl) (by kernel_rfl) (by kernel_rfl) (fun _ _ _ h => h) (Or.inl ⟨by rfl, ?hssb3⟩) (unhide HSW _ E0) ?_
            case hssb3 => (intro w hSw; (try dsimp only at hSw); go_simp) <;> with_reducible rfl
            simp only [Act.put, List.getElem_toArray, List.getElem_cons_zero, List.getElem_cons_succ, List.setIfInBounds_toArray, List.set_cons_zero, List.set_cons_succ]
            refine anyL_take (i := 4) (v := ?vssb4) rfl (by kernel_rfl) (by kernel_rfl) (by kernel_rfl) (by kernel_rfl) (fun _ _ _ h => h) (Or.inl ⟨by rfl, ?hssb4⟩) (unhide HSW _ E0) ?_
            case hssb4 => (intro w hSw; (try dsimp only at hSw); go_simp) <;> with_reducible rfl
            simp only [Act.put, List.getElem_toArray, List.getElem_cons_zero, List.getElem_cons_succ, List.setIfInBounds_toArray, List.set_cons_zero, List.set_cons_succ]
            refine anyL_take (i := 5) (v := ?vssb5) rfl (by kernel_rfl) (by kernel_rfl) (by kernel_rfl) (by kernel_rfl) (fun _ _ _ h => h) (Or.inl ⟨by rfl, ?hssb5⟩) (unhide HSW _ E0) ?_
            case hssb5 => (intro w hSw; (try dsimp only at hSw); go_simp) <;> with_reducible rfl
            simp only [Act.put, List.getElem_toArray, List.getElem_cons_zero, List.getElem_cons_succ, List.setIfInBounds_toArray, List.set_cons_zero, List.set_cons_succ]
            refine anyL_take (i := 6) (v := ?vssb6) rfl (by kernel_rfl) (by kernel_rfl) (by kernel_rfl) (by kernel_rfl) (fun _ _ _ h => h) (Or.inl ⟨by rfl, ?hssb6⟩) (unhide HSW _ E0) ?_
            case hssb6 => (intro w hSw; (try dsimp only at hSw); go_simp) <;> with_reducible rfl
            simp only [Act.put, List.getElem_toArray, List.getElem_cons_zero, List.getElem_cons_succ, List.setIfInBounds_toArray, List.set_cons_zero, List.set_cons_succ]
            refine anyL_take (i := 7) (v := ?vssb7) rfl (by kernel_rfl) (by kernel_rfl) (by kernel_rfl) (by kernel_rfl) (fun _ _ _ h => h) (Or.inl ⟨by rfl, ?hssb7⟩) (unhide HSW _ E0) ?_
            case hssb7 => (intro w hSw; (try dsimp only at hSw); go_simp) <;> with_reducible rfl
            simp only [Act.put, List.getElem_toArray, List.getElem_cons_zero, List.getElem_cons_succ, List.setIfInBounds_toArray, List.set_cons_zero, List.set_cons_succ]
            refine anyL_take (i := 8) (v := ?vssb8) rfl (by kernel_rfl) (by kernel_rfl) (by kernel_rfl) (by kernel_rfl) (fun _ _ _ h => h) (Or.inl ⟨by rfl, ?hssb8⟩) (unhide HSW _ E0) ?_
            case hssb8 => (intro w hSw; (try dsimp only at hSw); go_simp) <;> with_reducible rfl
            simp only [Act.put, List.getElem_toArray, List.getElem_cons_zero, List.getElem_cons_succ, List.setIfInBounds_toArray, List.set_cons_zero, List.set_cons_succ]
            refine anyL_take (i := 9) (v := ?vssb9) rfl (by kernel_rfl) (by kernel_rfl) (by kernel_rfl) (by kernel_rfl) (fun _ _ _ h => h) (Or.inl ⟨by rfl, ?hssb9⟩) (unhide HSW _ E0) ?_
            case hssb9 => (intro w hSw; (try dsimp only at hSw); go_simp) <;> with_reducible rfl
            simp only [Act.put, List.getElem_toArray, List.getElem_cons_zero, List.getElem_cons_succ, List.setIfInBounds_toArray, List.set_cons_zero, List.set_cons_succ]
            refine anyL_take (i := 10) (v := ?vssb10) rfl (by kernel_rfl) (by kernel_rfl) (by kernel_rfl) (by kernel_rfl) (fun _ _ _ h => h) (Or.inl ⟨by rfl, ?hssb10⟩) (unhide HSW _ E0) ?_
            case hssb10 => (intro w hSw; (try dsimp only at hSw); go_simp) <;> with_reducible rfl
            simp only [Act.put, List.getElem_toArray, List.getElem_cons_zero, List.getElem_cons_succ, List.setIfInBounds_toArray, List.set_cons_zero, List.set_cons_succ]
            refine anyL_take (i := 11) (v := ?vssb11) rfl (by kernel_rfl) (by kernel_rfl) (by kernel_rfl) (by kernel_rfl) (fun _ _ _ h => h) (Or.inl ⟨by rfl, ?hssb11⟩) (unhide HSW _ E0) ?_
            case hssb11 => (intro w hSw; (try dsimp only at hSw); go_simp) <;> with_reducible rfl
            simp only [Act.put, List.getElem_toArray, List.getElem_cons_zero, List.getElem_cons_succ, List.setIfInBounds_toArray, List.set_cons_zero, List.set_cons_succ]
            refine anyL_take (i := 12) (v := ?vssb12) rfl (by kernel_rfl) (by kernel_rfl) (by kernel_rfl) (by kernel_rfl) (fun _ _ _ h => h) (Or.inl ⟨by rfl, ?hssb12⟩) (unhide HSW _ E0) ?_
            case hssb12 => (intro w hSw; (try dsimp only at hSw); go_simp) <;> with_reducible rfl
            simp only [Act.put, List.getElem_toArray, List.getElem_cons_zero, List.getElem_cons_succ, List.setIfInBounds_toArray, List.set_cons_zero, List.set_cons_succ]
            refine anyL_take (i := 13) (v := ?vssb13) rfl (by kernel_rfl) (by kernel_rfl) (by kernel_rfl) (by kernel_rfl) (fun _ _ _ h => h) (Or.inl ⟨by rfl, ?hssb13⟩) (unhide HSW _ E0) ?_
            case hssb13 => (intro w hSw; (try dsimp only at hSw); go_simp) <;> with_reducible rfl
            simp only [Act.put, List.getElem_toArray, List.getElem_cons_zero, List.getElem_cons_succ, List.setIfInBounds_toArray, List.set_cons_zero, List.set_cons_succ]
            refine anyL_take (i := 14) (v := ?vssb14) rfl (by kernel_rfl) (by kernel_rfl) (by kernel_rfl) (by kernel_rfl) (fun _ _ _ h => h) (Or.inl ⟨by rfl, ?hssb14⟩) (unhide HSW _ E0) ?_
            case hssb14 => (intro w hSw; (try dsimp only at hSw); go_simp) <;> with_reducible rfl
            simp only [Act.put, List.getElem_toArray, List.getElem_cons_zero, List.getElem_cons_succ, List.setIfInBounds_toArray, List.set_cons_zero, List.set_cons_succ]
            refine anyL_take (i := 15) (v := ?vssb15) rfl (by kernel_rfl) (by kernel_rfl) (by kernel_rfl) (by kernel_rfl) (fun _ _ _ h => h) (Or.inl ⟨by rfl, ?hssb15⟩) (unhide HSW _ E0) ?_
            case hssb15 => (intro w hSw; (try dsimp only at hSw); go_simp) <;> with_reducible rfl
            simp only [Act.put, List.getElem_toArray, List.getElem_cons_zero, List.getElem_cons_succ, List.setIfInBounds_toArray, List.set_cons_zero, List.set_cons_succ]
            refine anyL_take (i := 16) (v := ?vssb16) rfl (by kernel_rfl) (by kernel_rfl) (by kernel_rfl) (by kernel_rfl) (fun _ _ _ h => h) (Or.inl ⟨by rfl, ?hssb16⟩) (unhide HSW _ E0) ?_
            case hssb16 => (intro w hSw; (try dsimp only at hSw); go_simp) <;> with_reducible rfl
            simp only [Act.put, List.getElem_toArray, List.getElem_cons_zero, List.getElem_cons_succ, List.setIfInBounds_toArray, List.set_cons_zero, List.set_cons_succ]
            refine anyL_take (i := 17) (v := ?vssb17) rfl (by kernel_rfl) (by kernel_rfl) (by kernel_rfl) (by kernel_rfl) (fun _ _ _ h => h) (Or.inl ⟨by rfl, ?hssb17⟩) (unhide HSW _ E0) ?_
            case hssb17 => (intro w hSw; (try dsimp only at hSw); go_simp) <;> with_reducible rfl
            simp only [Act.put, List.getElem_toArray, List.getElem_cons_zero, List.getElem_cons_succ, List.setIfInBounds_toArray, List.set_cons_zero, List.set_cons_succ]
            refine anyL_take (i := 18) (v := ?vssb18) rfl (by kernel_rfl) (by kernel_rfl) (by kernel_rfl) (by kernel_rfl) (fun _ _ _ h => h) (Or.inl ⟨by rfl, ?hssb18⟩) (unhide HSW _ E0) ?_
            case hssb18 => (intro w hSw; (try dsimp only at hSw); go_simp) <;> with_reducible rfl
            simp only [Act.put, List.getElem_toArray, List.getElem_cons_zero, List.getElem_cons_succ, List.setIfInBounds_toArray, List.set_cons_zero, List.set_cons_succ]
            refine anyL_take (i := 19) (v := ?vssb19) rfl (by kernel_rfl) (by kernel_rfl) (by kernel_rfl) (by kernel_rfl) (fun _ _ _ h => h) (Or.inl ⟨by rfl, ?hssb19⟩) (unhide HSW _ E0) ?_
            case hssb19 => (intro w hSw; (try dsimp only at hSw); go_simp) <;> with_reducible rfl
            simp only [Act.put, List.getElem_toArray, List.getElem_cons_zero, List.getElem_cons_succ, List.setIfInBounds_toArray, List.set_cons_zero, List.set_cons_succ]
            refine anyL_take (i := 20) (v := ?vssb20) rfl (by kernel_rfl) (by kernel_rfl) (by kernel_rfl) (by kernel_rfl) (fun _ _ _ h => h) (Or.inl ⟨by rfl, ?hssb20⟩) (unhide HSW _ E0) ?_
            case hssb20 => (intro w hSw; (try dsimp only at hSw); go_simp) <;> with_reducible rfl
            simp only [Act.put, List.getElem_toArray, List.getElem_cons_zero, List.getElem_cons_succ, List.setIfInBounds_toArray, List.set_cons_zero, List.set_cons_succ]
            refine anyL_take (i := 21) (v := ?vssb21) rfl (by kernel_rfl) (by kernel_rfl) (by kernel_rfl) (by kernel_rfl) (fun _ _ _ h => h) (Or.inl ⟨by rfl, ?hssb21⟩) (unhide HSW _ E0) ?_
            case hssb21 => (intro w hSw; (try dsimp only at hSw); go_simp) <;> with_reducible rfl
            simp only [Act.put, List.getElem_toArray, List.getElem_cons_zero, List.getElem_cons_succ, List.setIfInBounds_toArray, List.set_cons_zero, List.set_cons_succ]
            refine anyL_take (i := 22) (v := ?vssb22) rfl (by kernel_rfl) (by kernel_rfl) (by kernel_rfl) (by kernel_rfl) (fun _ _ _ h => h) (Or.inl ⟨by rfl, ?hssb22⟩) (unhide HSW _ E0) ?_
            case hssb22 => (intro w hSw; (try dsimp only at hSw); go_simp) <;> with_reducible rfl
            simp only [Act.put, List.getElem_toArray, List.getElem_cons_zero, List.getElem_cons_succ, List.setIfInBounds_toArray, List.set_cons_zero, List.set_cons_succ]
            refine anyL_take (i := 23) (v := ?vssb23) rfl (by kernel_rfl) (by kernel_rfl) (by kernel_rfl) (by kernel_rfl) (fun _ _ _ h => h) (Or.inl ⟨by rfl, ?hssb23⟩) (unhide HSW _ E0) ?_
            case hssb23 => (intro w hSw; (try dsimp only at hSw); go_simp) <;> with_reducible rfl
            simp only [Act.put, List.getElem_toArray, List.getElem_cons_zero, List.getElem_cons_succ, List.setIfInBounds_toArray, List.set_cons_zero, List.set_cons_succ]
            refine anyL_take (i := 24) (v := ?vssb24) rfl (by kernel_rfl) (by kernel_rfl) (by kernel_rfl) (by kernel_rfl) (fun _ _ _ h => h) (Or.inl ⟨by rfl, ?hssb24⟩) (unhide HSW _ E0) ?_
            case hssb24 => (intro w hSw; (try dsimp only at hSw); go_simp) <;> with_reducible rfl
            simp only [Act.put, List.getElem_toArray, List.getElem_cons_zero, List.getElem_cons_succ, List.setIfInBounds_toArray, List.set_cons_zero, List.set_cons_succ]
            refine anyL_take (i := 25) (v := ?vssb25) rfl (by kernel_rfl) (by kernel_rfl) (by kernel_rfl) (by kernel_rfl) (fun _ _ _ h => h) (Or.inl ⟨by rfl, ?hssb25⟩) (unhide HSW _ E0) ?_
            case hssb25 => (intro w hSw; (try dsimp only at hSw); go_simp) <;> with_reducible rfl
            simp only [Act.put, List.getElem_toArray, List.getElem_cons_zero, List.getElem_cons_succ, List.setIfInBounds_toArray, List.set_cons_zero, List.set_cons_succ]
            refine anyL_take (i := 26) (v := ?vssb26) rfl (by kernel_rfl) (by kernel_rfl) (by kernel_rfl) (by kernel_rfl) (fun _ _ _ h => h) (Or.inl ⟨by rfl, ?hssb26⟩) (unhide HSW _ E0) ?_
            case hssb26 => (intro w hSw; (try dsimp only at hSw); go_simp) <;> with_reducible rfl
            simp only [Act.put, List.getElem_toArray, List.getElem_cons_zero, List.getElem_cons_succ, List.setIfInBounds_toArray, List.set_cons_zero, List.set_cons_succ]
            refine anyL_take (i := 27) (v := ?vssb27) rfl (by kernel_rfl) (by kernel_rfl) (by kernel_rfl) (by kernel_rfl) (fun _ _ _ h => h) (Or.inl ⟨by rfl, ?hssb27⟩) (unhide HSW _ E0) ?_
            case hssb27 => (intro w hSw; (try dsimp only at hSw); go_simp) <;> with_reducible rfl
            simp only [Act.put, List.getElem_toArray, List.getElem_cons_zero, List.getElem_cons_succ, List.setIfInBounds_toArray, List.set_cons_zero, List.set_cons_succ]
            refine anyL_take (i := 28) (v := ?vssb28) rfl (by kernel_rfl) (by kernel_rfl) (by kernel_rfl) (by kernel_rfl) (fun _ _ _ h => h) (Or.inl ⟨by rfl, ?hssb28⟩) (unhide HSW _ E0) ?_
            case hssb28 => (intro w hSw; (try dsimp only at hSw); go_simp) <;> with_reducible rfl
            simp only [Act.put, List.getElem_toArray, List.getElem_cons_zero, List.getElem_cons_succ, List.setIfInBounds_toArray, List.set_cons_zero, List.set_cons_succ]
            refine anyL_take (i := 29) (v := ?vssb29) rfl (by kernel_rfl) (by kernel_rfl) (by kernel_rfl) (by kernel_rfl) (fun _ _ _ h => h) (Or.inl ⟨by rfl, ?hssb29⟩) (unhide HSW _ E0) ?_
            case hssb29 => (intro w hSw; (try dsimp only at hSw); go_simp) <;> with_reducible rfl
            simp only [Act.put, List.getElem_toArray, List.getElem_cons_zero, List.getElem_cons_succ, List.setIfInBounds_toArray, List.set_cons_zero, List.set_cons_succ]
            refine anyL_take (i := 30) (v := ?vssb30) rfl (by kernel_rfl) (by kernel_rfl) (by kernel_rfl) (by kernel_rfl) (fun _ _ _ h => h) (Or.inl ⟨by rfl, ?hssb30⟩) (unhide HSW _ E0) ?_
            case hssb30 => (intro w hSw; (try dsimp only at hSw); go_simp) <;> with_reducible rfl
            simp only [Act.put, List.getElem_toArray, List.getElem_cons_zero, List.getElem_cons_succ, List.setIfInBounds_toArray, List.set_cons_zero, List.set_cons_succ]
            refine anyL_take (i := 31) (v := ?vssb31) rfl (by kernel_rfl) (by kernel_rfl) (by kernel_rfl) (by kernel_rfl) (fun _ _ _ h => h) (Or.inl ⟨by rfl, ?hssb31⟩) (unhide HSW _ E0) ?_
            case hssb31 => (intro w hSw; (try dsimp only at hSw); go_simp) <;> with_reducible rfl
            simp only [Act.put, List.getElem_toArray, List.getElem_cons_zero, List.getElem_cons_succ, List.setIfInBounds_toArray, List.set_cons_zero, List.set_cons_succ]
            refine anyL_done (by kernel_rfl) ?_ _
            have Fy := F4.trans (E0.mono F4.size)
            obtain ⟨q0, q1, q2, _⟩ := unhide HG3 y0 E0
            clear HSW F4 HG3
            rcases unhide HNX with ⟨hq, hfq, hA'⟩ | ⟨hq, hA'⟩
            · subst hq
              subst hfq
              go_wp2_with fail
              refine ((unhide HS).w1 y0 Fy).mono ?_
              rintro y v5 ⟨⟨k3, k4, k5, k6, rfl⟩, x5⟩
              dsimp only
              have F5 := Fy.trans (x5.mono Fy.size)
              clear x5 Fy q0 q1 q2
              go_upto_region 25 with fail
              have x6 := (Below.refl v5.heap.size v5).alloc (Nat.le_refl _) (.cells #[.int .i64 (f : Int), .int .i64 r2, .int .i64 u3, .int .i64 k3, .int .i64 k4, .int .i64 k5, .int .i64 k6] 44)
              have K6 := Cls.new v5 44 #[.int .i64 (f : Int), .int .i64 r2, .int .i64 u3, .int .i64 k3, .int .i64 k4, .int .i64 k5, .int .i64 k6]
              generalize v5.alloc (.cells #[.int .i64 (f : Int), .int .i64 r2, .int .i64 u3, .int .i64 k3, .int .i64 k4, .int .i64 k5, .int .i64 k6] 44) = v6 at *
              have F6 := F5.trans (x6.mono F5.size)
              clear x6 F5
              generalize v5.heap.size = gW at *
              go_wp2_with fail
              refine ((unhide HS).t2 v6 F6).mono ?_
              rintro y v7 ⟨rfl, x7⟩
              dsimp only
              have F7 := F6.trans (x7.mono F6.size)
              have K7 := K6.below x7 K6.lt
              clear x7 F6 K6
              go_wp2_with fail
              refine ((unhide HS).t3 v7 F7).mono ?_
              rintro y v8 ⟨rfl, x8⟩
              dsimp only
              have F8 := F7.trans (x8.mono F7.size)
              have K8 := K7.below x8 K7.lt
              clear x8 F7 K7
              have l0 : v8.cell? ⟨gW, 0, none⟩ = some (.int .i64 (f : Int)) := (K8.cell 0).trans rfl
              have l1 : v8.cell? ⟨gW, 1, none⟩ = some (.int .i64 r2) := (K8.cell 1).trans rfl
              have l2 : v8.cell? ⟨gW, 2, none⟩ = some (.int .i64 u3) := (K8.cell 2).trans rfl
              clear K8
              go_wp2_with fail
              go_roundw
              case rel => exact ⟨⟨_, rfl⟩, ⟨_, rfl⟩, ⟨_, rfl⟩, ⟨_, rfl⟩, ⟨_, rfl⟩, ⟨_, rfl⟩, ⟨_, rfl⟩, ⟨_, rfl⟩, ⟨_, rfl⟩, ⟨_, rfl⟩, ⟨_, rfl⟩, ⟨_, rfl⟩, ⟨_, rfl⟩, f + 1, f + sn, cast_add f sn, by rw [e6]; exact cast_one_add f, c, hide hA', hide F8⟩
              case measure => rw [e6]; exact meas_lt c
            · have b2 : ((p : Int) == (at' : Int)) = false := beq_ne hq
              go_wp2_with fail
              refine ((unhide HS).w1 y0 Fy).mono ?_
              rintro y v5 ⟨⟨k3, k4, k5, k6, rfl⟩, x5⟩
              dsimp only
              have F5 := Fy.trans (x5.mono Fy.size)
              clear x5 Fy q0 q1 q2
              go_upto_region 25 with fail
              have x6 := (Below.refl v5.heap.size v5).alloc (Nat.le_refl _) (.cells #[.int .i64 (f : Int), .int .i64 r2, .int .i64 u3, .int .i64 k3, .int .i64 k4, .int .i64 k5, .int .i64 k6] 44)
              have K6 := Cls.new v5 44 #[.int .i64 (f : Int), .int .i64 r2, .int .i64 u3, .int .i64 k3, .int .i64 k4, .int .i64 k5, .int .i64 k6]
              generalize v5.alloc (.cells #[.int .i64 (f : Int), .int .i64 r2, .int .i64 u3, .int .i64 k3, .int .i64 k4, .int .i64 k5, .int .i64 k6] 44) = v6 at *
              have F6 := F5.trans (x6.mono F5.size)
              clear x6 F5
              generalize v5.heap.size = gW at *
              go_wp2_with fail
              refine ((unhide HS).t2 v6 F6).mono ?_
              rintro y v7 ⟨rfl, x7⟩
              dsimp only
              have F7 := F6.trans (x7.mono F6.size)
              have K7 := K6.below x7 K6.lt
              clear x7 F6 K6
              go_wp2_with fail
              refine ((unhide HS).t3 v7 F7).mono ?_
              rintro y v8 ⟨rfl, x8⟩
              dsimp only
              have F8 := F7.trans (x8.mono F7.size)
              have K8 := K7.below x8 K7.lt
              clear x8 F7 K7
              have l0 : v8.cell? ⟨gW, 0, none⟩ = some (.int .i64 (f : Int)) := (K8.cell 0).trans rfl
              have l1 : v8.cell? ⟨gW, 1, none⟩ = some (.int .i64 r2) := (K8.cell 1).trans rfl
              have l2 : v8.cell? ⟨gW, 2, none⟩ = some (.int .i64 u3) := (K8.cell 2).trans rfl
              clear K8
              go_wp2_with fail
              go_roundw
              case rel => exact ⟨⟨_, rfl⟩, ⟨_, rfl⟩, ⟨_, rfl⟩, ⟨_, rfl⟩, ⟨_, rfl⟩, ⟨_, rfl⟩, ⟨_, rfl⟩, ⟨_, rfl⟩, ⟨_, rfl⟩, ⟨_, rfl⟩, ⟨_, rfl⟩, ⟨_, rfl⟩, ⟨_, rfl⟩, p + 1, at', rfl, by rw [e6]; exact cast_one_add p, c, hide hA', hide F8⟩
              case measure => rw [e6]; exact meas_lt c
          · have b1 : (sr == 65533) = false := by simpa using hs5
            clear hnb hs5
            go_upto_region 18 with fail
            refine regionL (S := fun w' => w'.cell? ⟨gS, 0, none⟩ = some (.int .i32 sr) ∧ w'.cell? ⟨gS, 1, none⟩ = some (.int .i64 (sn : Int)) ∧ w'.cell? ⟨gS, 2, none⟩ = some (.bool true) ∧ (convert 30 9 (.slice (some ⟨gb, off + f, none⟩) sn (bc - f))).run Tryz.prog w' = .ok (.string (Utf8.encode sr)) w') (fun _ => false) (by kernel_rfl) ?_
            generalize hy0 : v3.drew = y0 at *
            refine anyL_take (i := 0) (v := ?vssa32) rfl (by kernel_rfl) (by kernel_rfl) (by kernel_rfl) (by kernel_rfl) (fun _ _ _ h => h) (Or.inl ⟨by rfl, ?hssa32⟩) (unhide HSW _ E0) ?_
            case hssa32 => (intro w hSw; (try dsimp only at hSw); go_simp) <;> with_reducible rfl
            simp only [Act.put, List.getElem_toArray, List.getElem_cons_zero, List.setIfInBounds_toArray, List.set_cons_zero, List.set_cons_succ]
            refine anyL_take (i := 1) (v := ?vssa33) rfl (by kernel_rfl) (by kernel_rfl) (by kernel_rfl) (by kernel_rfl) (fun _ _ _ h => h) (Or.inl ⟨by rfl, ?hssa33⟩) (unhide HSW _ E0) ?_
            case hssa33 => (intro w hSw; (try dsimp only at hSw); go_simp) <;> with_reducible rfl
            simp only [Act.put, List.getElem_toArray, List.getElem_cons_zero, List.getElem_cons_succ, List.setIfInBounds_toArray, List.set_cons_zero, List.set_cons_succ]
            refine anyL_take (i := 2) (v := ?vssa34) rfl (by kernel_rfl) (by kernel_rfl) (by kernel_rfl) (by kernel_rfl) (fun _ _ _ h => h) (Or.inl ⟨by rfl, ?hssa34⟩) (unhide HSW _ E0) ?_
            case hssa34 => (intro w hSw; (try dsimp only at hSw); go_simp) <;> with_reducible rfl
            simp only [Act.put, List.getElem_toArray, List.getElem_cons_zero, List.getElem_cons_succ, List.setIfInBounds_toArray, List.set_cons_zero, List.set_cons_succ]
            refine anyL_take (i := 3) (v := ?vssa35) rfl (by kernel_rfl) (by kernel_rfl) (by kernel_rfl) (by kernel_rfl) (fun _ _ _ h => h) (Or.inl ⟨by rfl, ?hssa35⟩) (unhide HSW _ E0) ?_
            case hssa35 => (intro w hSw; (try dsimp only at hSw); go_simp) <;> with_reducible rfl
            simp only [Act.put, List.getElem_toArray, List.getElem_cons_zero, List.getElem_cons_succ, List.setIfInBounds_toArray, List.set_cons_zero, List.set_cons_succ]
            refine anyL_take (i := 4) (v := ?vssa36) rfl (by kernel_rfl) (by kernel_rfl) (by kernel_rfl) (by kernel_rfl) (fun _ _ _ h => h) (Or.inl ⟨by rfl, ?hssa36⟩) (unhide HSW _ E0) ?_
            case hssa36 => (intro w hSw; (try dsimp only at hSw); go_simp) <;> with_reducible rfl
            simp only [Act.put, List.getElem_toArray, List.getElem_cons_zero, List.getElem_cons_succ, List.setIfInBounds_toArray, List.set_cons_zero, List.set_cons_succ]
            refine anyL_take (i := 5) (v := ?vssa37) rfl (by kernel_rfl) (by kernel_rfl) (by kernel_rfl) (by kernel_rfl) (fun _ _ _ h => h) (Or.inl ⟨by rfl, ?hssa37⟩) (unhide HSW _ E0) ?_
            case hssa37 => (intro w hSw; (try dsimp only at hSw); go_simp) <;> with_reducible rfl
            simp only [Act.put, List.getElem_toArray, List.getElem_cons_zero, List.getElem_cons_succ, List.setIfInBounds_toArray, List.set_cons_zero, List.set_cons_succ]
            refine anyL_take (i := 6) (v := undef) rfl (by kernel_rfl) (by kernel_rfl) (by kernel_rfl) (by kernel_rfl) (fun _ _ _ h => h) (Or.inr ⟨by rfl, rfl⟩) (unhide HSW _ E0) ?_
            simp only [Act.put, List.getElem_toArray, List.getElem_cons_zero, List.getElem_cons_succ, List.setIfInBounds_toArray, List.set_cons_zero, List.set_cons_succ]
            refine anyL_take (i := 7) (v := undef) rfl (by kernel_rfl) (by kernel_rfl) (by kernel_rfl) (by kernel_rfl) (fun _ _ _ h => h) (Or.inr ⟨by rfl, rfl⟩) (unhide HSW _ E0) ?_
            simp only [Act.put, List.getElem_toArray, List.getElem_cons_zero, List.getElem_cons_succ, List.setIfInBounds_toArray, List.set_cons_zero, List.set_cons_succ]
            refine anyL_take (i := 8) (v := undef) rfl (by kernel_rfl) (by kernel_rfl) (by kernel_rfl) (by kernel_rfl) (fun _ _ _ h => h) (Or.inr ⟨by rfl, rfl⟩) (unhide HSW _ E0) ?_
            simp only [Act.put, List.getElem_toArray, List.getElem_cons_zero, List.getElem_cons_succ, List.setIfInBounds_toArray, List.set_cons_zero, List.set_cons_succ]
            refine anyL_take (i := 9) (v := ?vssa41) rfl (by kernel_rfl) (by kernel_rfl) (by kernel_rfl) (by kernel_rfl) (fun _ _ _ h => h) (Or.inl ⟨by rfl, ?hssa41⟩) (unhide HSW _ E0) ?_
            case hssa41 => (intro w hSw; (try dsimp only at hSw); go_simp) <;> with_reducible rfl
            simp only [Act.put, List.getElem_toArray, List.getElem_cons_zero, List.getElem_cons_succ, List.setIfInBounds_toArray, List.set_cons_zero, List.set_cons_succ]
            refine anyL_take (i := 10) (v := ?vssa42) rfl (by kernel_rfl) (by kernel_rfl) (by kernel_rfl) (by kernel_rfl) (fun _ _ _ h => h) (Or.inl ⟨by rfl, ?hssa42⟩) (unhide HSW _ E0) ?_
            case hssa42 => (intro w hSw; (try dsimp only at hSw); go_simp) <;> with_reducible rfl
            simp only [Act.put, List.getElem_toArray, List.getElem_cons_zero, List.getElem_cons_succ, List.setIfInBounds_toArray, List.set_cons_zero, List.set_cons_succ]
            refine anyL_take (i := 11) (v := ?vssa43) rfl (by kernel_rfl) (by kernel_rfl) (by kernel_rfl) (by kernel_rfl) (fun _ _ _ h => h) (Or.inl ⟨by rfl, ?hssa43⟩) (unhide HSW _ E0) ?_
            case hssa43 => (intro w hSw; (try dsimp only at hSw); go_simp) <;> with_reducible rfl
            simp only [Act.put, List.getElem_toArray, List.getElem_cons_zero, List.getElem_cons_succ, List.setIfInBounds_toArray, List.set_cons_zero, List.set_cons_succ]
            refine anyL_take (i := 12) (v := ?vssa44) rfl (by kernel_rfl) (by kernel_rfl) (by kernel_rfl) (by kernel_rfl) (fun _ _ _ h => h) (Or.inl ⟨by rfl, ?hssa44⟩) (unhide HSW _ E0) ?_
            case hssa44 => (intro w hSw; (try dsimp only at hSw); go_simp) <;> with_reducible rfl
            simp only [Act.put, List.getElem_toArray, List.getElem_cons_zero, List.getElem_cons_succ, List.setIfInBounds_toArray, List.set_cons_zero, List.set_cons_succ]
            refine anyL_take (i := 13) (v := ?vssa45) rfl (by kernel_rfl) (by kernel_rfl) (by kernel_rfl) (by kernel_rfl) (fun _ _ _ h => h) (Or.inl ⟨by rfl, ?hssa45⟩) (unhide HSW _ E0) ?_
            case hssa45 => (intro w hSw; (try dsimp only at hSw); go_simp) <;> with_reducible rfl
            simp only [Act.put, List.getElem_toArray, List.getElem_cons_zero, List.getElem_cons_succ, List.setIfInBounds_toArray, List.set_cons_zero, List.set_cons_succ]
            refine anyL_take (i := 14) (v := ?vssa46) rfl (by kernel_rfl) (by kernel_rfl) (by kernel_rfl) (by kernel_rfl) (fun _ _ _ h => h) (Or.inl ⟨by rfl, ?hssa46⟩) (unhide HSW _ E0) ?_
            case hssa46 => (intro w hSw; (try dsimp only at hSw); go_simp) <;> with_reducible rfl
            simp only [Act.put, List.getElem_toArray, List.getElem_cons_zero, List.getElem_cons_succ, List.setIfInBounds_toArray, List.set_cons_zero, List.set_cons_succ]
            refine anyL_take (i := 15) (v := ?vssa47) rfl (by kernel_rfl) (by kernel_rfl) (by kernel_rfl) (by kernel_rfl) (fun _ _ _ h => h) (Or.inl ⟨by rfl, ?hssa47⟩) (unhide HSW _ E0) ?_
            case hssa47 => (intro w hSw; (try dsimp only at hSw); go_simp) <;> with_reducible rfl
            simp only [Act.put, List.getElem_toArray, List.getElem_cons_zero, List.getElem_cons_succ, List.setIfInBounds_toArray, List.set_cons_zero, List.set_cons_succ]
            refine anyL_take (i := 16) (v := ?vssa48) rfl (by kernel_rfl) (by kernel_rfl) (by kernel_rfl) (by kernel_rfl) (fun _ _ _ h => h) (Or.inl ⟨by rfl, ?hssa48⟩) (unhide HSW _ E0) ?_
            case hssa48 => (intro w hSw; (try dsimp only at hSw); go_simp) <;> with_reducible rfl
            simp only [Act.put, List.getElem_toArray, List.getElem_cons_zero, List.getElem_cons_succ, List.setIfInBounds_toArray, List.set_cons_zero, List.set_cons_succ]
            refine anyL_take (i := 17) (v := ?vssa49) rfl (by kernel_rfl) (by kernel_rfl) (by kernel_rfl) (by kernel_rfl) (fun _ _ _ h => h) (Or.inl ⟨by rfl, ?hssa49⟩) (unhide HSW _ E0) ?_
            case hssa49 => (intro w hSw; (try dsimp only at hSw); go_simp) <;> with_reducible rfl
            simp only [Act.put, List.getElem_toArray, List.getElem_cons_zero, List.getElem_cons_succ, List.setIfInBounds_toArray, List.set_cons_zero, List.set_cons_succ]
            refine anyL_take (i := 18) (v := ?vssa50) rfl (by kernel_rfl) (by kernel_rfl) (by kernel_rfl) (by kernel_rfl) (fun _ _ _ h => h) (Or.inl ⟨by rfl, ?hssa50⟩) (unhide HSW _ E0) ?_
            case hssa50 => (intro w hSw; (try dsimp only at hSw); go_simp) <;> with_reducible rfl
            simp only [Act.put, List.getElem_toArray, List.getElem_cons_zero, List.getElem_cons_succ, List.setIfInBounds_toArray, List.set_cons_zero, List.set_cons_succ]
            refine anyL_take (i := 19) (v := ?vssa51) rfl (by kernel_rfl) (by kernel_rfl) (by kernel_rfl) (by kernel_rfl) (fun _ _ _ h => h) (Or.inl ⟨by rfl, ?hssa51⟩) (unhide HSW _ E0) ?_
            case hssa51 => (intro w hSw; (try dsimp only at hSw); go_simp) <;> with_reducible rfl
            simp only [Act.put, List.getElem_toArray, List.getElem_cons_zero, List.getElem_cons_succ, List.setIfInBounds_toArray, List.set_cons_zero, List.set_cons_succ]
            refine anyL_take (i := 20) (v := ?vssa52) rfl (by kernel_rfl) (by kernel_rfl) (by kernel_rfl) (by kernel_rfl) (fun _ _ _ h => h) (Or.inl ⟨by rfl, ?hssa52⟩) (unhide HSW _ E0) ?_
            case hssa52 => (intro w hSw; (try dsimp only at hSw); go_simp) <;> with_reducible rfl
            simp only [Act.put, List.getElem_toArray, List.getElem_cons_zero, List.getElem_cons_succ, List.setIfInBounds_toArray, List.set_cons_zero, List.set_cons_succ]
            refine anyL_take (i := 21) (v := ?vssa53) rfl (by kernel_rfl) (by kernel_rfl) (by kernel_rfl) (by kernel_rfl) (fun _ _ _ h => h) (Or.inl ⟨by rfl, ?hssa53⟩) (unhide HSW _ E0) ?_
            case hssa53 => (intro w hSw; (try dsimp only at hSw); go_simp) <;> with_reducible rfl
            simp only [Act.put, List.getElem_toArray, List.getElem_cons_zero, List.getElem_cons_succ, List.setIfInBounds_toArray, List.set_cons_zero, List.set_cons_succ]
            refine anyL_take (i := 22) (v := ?vssa54) rfl (by kernel_rfl) (by kernel_rfl) (by kernel_rfl) (by kernel_rfl) (fun _ _ _ h => h) (Or.inl ⟨by rfl, ?hssa54⟩) (unhide HSW _ E0) ?_
            case hssa54 => (intro w hSw; (try dsimp only at hSw); go_simp) <;> with_reducible rfl
            simp only [Act.put, List.getElem_toArray, List.getElem_cons_zero, List.getElem_cons_succ, List.setIfInBounds_toArray, List.set_cons_zero, List.set_cons_succ]
            refine anyL_take (i := 23) (v := ?vssa55) rfl (by kernel_rfl) (by kernel_rfl) (by kernel_rfl) (by kernel_rfl) (fun _ _ _ h => h) (Or.inl ⟨by rfl, ?hssa55⟩) (unhide HSW _ E0) ?_
            case hssa55 => (intro w hSw; (try dsimp only at hSw); go_simp) <;> with_reducible rfl
            simp only [Act.put, List.getElem_toArray, List.getElem_cons_zero, List.getElem_cons_succ, List.setIfInBounds_toArray, List.set_cons_zero, List.set_cons_succ]
            refine anyL_take (i := 24) (v := ?vssa56) rfl (by kernel_rfl) (by kernel_rfl) (by kernel_rfl) (by kernel_rfl) (fun _ _ _ h => h) (Or.inl ⟨by rfl, ?hssa56⟩) (unhide HSW _ E0) ?_
            case hssa56 => (intro w hSw; (try dsimp only at hSw); go_simp) <;> with_reducible rfl
            simp only [Act.put, List.getElem_toArray, List.getElem_cons_zero, List.getElem_cons_succ, List.setIfInBounds_toArray, List.set_cons_zero, List.set_cons_succ]
            refine anyL_take (i := 25) (v := ?vssa57) rfl (by kernel_rfl) (by kernel_rfl) (by kernel_rfl) (by kernel_rfl) (fun _ _ _ h => h) (Or.inl ⟨by rfl, ?hssa57⟩) (unhide HSW _ E0) ?_
            case hssa57 => (intro w hSw; (try dsimp only at hSw); go_simp) <;> with_reducible rfl
            simp only [Act.put, List.getElem_toArray, List.getElem_cons_zero, List.getElem_cons_succ, List.setIfInBounds_toArray, List.set_cons_zero, List.set_cons_succ]
            refine anyL_take (i := 26) (v := ?vssa58) rfl (by kernel_rfl) (by kernel_rfl) (by kernel_rfl) (by kernel_rfl) (fun _ _ _ h => h) (Or.inl ⟨by rfl, ?hssa58⟩) (unhide HSW _ E0) ?_
            case hssa58 => (intro w hSw; (try dsimp only at hSw); go_simp) <;> with_reducible rfl
            simp only [Act.put, List.getElem_toArray, List.getElem_cons_zero, List.getElem_cons_succ, List.setIfInBounds_toArray, List.set_cons_zero, List.set_cons_succ]
            refine anyL_take (i := 27) (v := ?vssa59) rfl (by kernel_rfl) (by kernel_rfl) (by kernel_rfl) (by kernel_rfl) (fun _ _ _ h => h) (Or.inl ⟨by rfl, ?hssa59⟩) (unhide HSW _ E0) ?_
            case hssa59 => (intro w hSw; (try dsimp only at hSw); go_simp) <;> with_reducible rfl
            simp only [Act.put, List.getElem_toArray, List.getElem_cons_zero, List.getElem_cons_succ, List.setIfInBounds_toArray, List.set_cons_zero, List.set_cons_succ]
            refine anyL_take (i := 28) (v := ?vssa60) rfl (by kernel_rfl) (by kernel_rfl) (by kernel_rfl) (by kernel_rfl) (fun _ _ _ h => h) (Or.inl ⟨by rfl, ?hssa60⟩) (unhide HSW _ E0) ?_
            case hssa60 => (intro w hSw; (try dsimp only at hSw); go_simp) <;> with_reducible rfl
            simp only [Act.put, List.getElem_toArray, List.getElem_cons_zero, List.getElem_cons_succ, List.setIfInBounds_toArray, List.set_cons_zero, List.set_cons_succ]
            refine anyL_take (i := 29) (v := ?vssa61) rfl (by kernel_rfl) (by kernel_rfl) (by kernel_rfl) (by kernel_rfl) (fun _ _ _ h => h) (Or.inl ⟨by rfl, ?hssa61⟩) (unhide HSW _ E0) ?_
            case hssa61 => (intro w hSw; (try dsimp only at hSw); go_simp) <;> with_reducible rfl
            simp only [Act.put, List.getElem_toArray, List.getElem_cons_zero, List.getElem_cons_succ, List.setIfInBounds_toArray, List.set_cons_zero, List.set_cons_succ]
            refine anyL_take (i := 30) (v := ?vssa62) rfl (by kernel_rfl) (by kernel_rfl) (by kernel_rfl) (by kernel_rfl) (fun _ _ _ h => h) (Or.inl ⟨by rfl, ?hssa62⟩) (unhide HSW _ E0) ?_
            case hssa62 => (intro w hSw; (try dsimp only at hSw); go_simp) <;> with_reducible rfl
            simp only [Act.put, List.getElem_toArray, List.getElem_cons_zero, List.getElem_cons_succ, List.setIfInBounds_toArray, List.set_cons_zero, List.set_cons_succ]
            refine anyL_take (i := 31) (v := ?vssa63) rfl (by kernel_rfl) (by kernel_rfl) (by kernel_rfl) (by kernel_rfl) (fun _ _ _ h => h) (Or.inl ⟨by rfl, ?hssa63⟩) (unhide HSW _ E0) ?_
            case hssa63 => (intro w hSw; (try dsimp only at hSw); go_simp) <;> with_reducible rfl
            simp only [Act.put, List.getElem_toArray, List.getElem_cons_zero, List.getElem_cons_succ, List.setIfInBounds_toArray, List.set_cons_zero, List.set_cons_succ]
            refine anyL_done (by kernel_rfl) ?_ _
            have Fy := F4.trans (E0.mono F4.size)
            obtain ⟨q0, q1, q2, _⟩ := unhide HG3 y0 E0
            clear HSW F4 HG3
            rcases unhide HNX with ⟨hq, hfq, hA'⟩ | ⟨hq, hA'⟩
            · subst hq
              subst hfq
              go_wp2_with fail
              refine ((unhide HS).w1 y0 Fy).mono ?_
              rintro y v5 ⟨⟨k3, k4, k5, k6, rfl⟩, x5⟩
              dsimp only
              have F5 := Fy.trans (x5.mono Fy.size)
              clear x5 Fy q0 q1 q2
              go_upto_region 25 with fail
              have x6 := (Below.refl v5.heap.size v5).alloc (Nat.le_refl _) (.cells #[.int .i64 (f : Int), .int .i64 r2, .int .i64 u3, .int .i64 k3, .int .i64 k4, .int .i64 k5, .int .i64 k6] 44)
              have K6 := Cls.new v5 44 #[.int .i64 (f : Int), .int .i64 r2, .int .i64 u3, .int .i64 k3, .int .i64 k4, .int .i64 k5, .int .i64 k6]
              generalize v5.alloc (.cells #[.int .i64 (f : Int), .int .i64 r2, .int .i64 u3, .int .i64 k3, .int .i64 k4, .int .i64 k5, .int .i64 k6] 44) = v6 at *
              have F6 := F5.trans (x6.mono F5.size)
              clear x6 F5
              generalize v5.heap.size = gW at *
              go_wp2_with fail
              refine ((unhide HS).t2 v6 F6).mono ?_
              rintro y v7 ⟨rfl, x7⟩
              dsimp only
              have F7 := F6.trans (x7.mono F6.size)
              have K7 := K6.below x7 K6.lt
              clear x7 F6 K6
              go_wp2_with fail
              refine ((unhide HS).t3 v7 F7).mono ?_
              rintro y v8 ⟨rfl, x8⟩
              dsimp only
              have F8 := F7.trans (x8.mono F7.size)
              have K8 := K7.below x8 K7.lt
              clear x8 F7 K7
              have l0 : v8.cell? ⟨gW, 0, none⟩ = some (.int .i64 (f : Int)) := (K8.cell 0).trans rfl
              have l1 : v8.cell? ⟨gW, 1, none⟩ = some (.int .i64 r2) := (K8.cell 1).trans rfl
              have l2 : v8.cell? ⟨gW, 2, none⟩ = some (.int .i64 u3) := (K8.cell 2).trans rfl
              clear K8
              go_wp2_with fail
              go_roundw
              case rel => exact ⟨⟨_, rfl⟩, ⟨_, rfl⟩, ⟨_, rfl⟩, ⟨_, rfl⟩, ⟨_, rfl⟩, ⟨_, rfl⟩, ⟨_, rfl⟩, ⟨_, rfl⟩, ⟨_, rfl⟩, ⟨_, rfl⟩, ⟨_, rfl⟩, ⟨_, rfl⟩, ⟨_, rfl⟩, f + 1, f + sn, cast_add f sn, by rw [e6]; exact cast_one_add f, c, hide hA', hide F8⟩
              case measure => rw [e6]; exact meas_lt c
            · have b2 : ((p : Int) == (at' : Int)) = false := beq_ne hq
              go_wp2_with fail
              refine ((unhide HS).w1 y0 Fy).mono ?_
              rintro y v5 ⟨⟨k3, k4, k5, k6, rfl⟩, x5⟩
              dsimp only
              have F5 := Fy.trans (x5.mono Fy.size)
              clear x5 Fy q0 q1 q2
              go_upto_region 25 with fail
              have x6 := (Below.refl v5.heap.size v5).alloc (Nat.le_refl _) (.cells #[.int .i64 (f : Int), .int .i64 r2, .int .i64 u3, .int .i64 k3, .int .i64 k4, .int .i64 k5, .int .i64 k6] 44)
              have K6 := Cls.new v5 44 #[.int .i64 (f : Int), .int .i64 r2, .int .i64 u3, .int .i64 k3, .int .i64 k4, .int .i64 k5, .int .i64 k6]
              generalize v5.alloc (.cells #[.int .i64 (f : Int), .int .i64 r2, .int .i64 u3, .int .i64 k3, .int .i64 k4, .int .i64 k5, .int .i64 k6] 44) = v6 at *
              have F6 := F5.trans (x6.mono F5.size)
              clear x6 F5
              generalize v5.heap.size = gW at *
              go_wp2_with fail
              refine ((unhide HS).t2 v6 F6).mono ?_
              rintro y v7 ⟨rfl, x7⟩
              dsimp only
              have F7 := F6.trans (x7.mono F6.size)
              have K7 := K6.below x7 K6.lt
              clear x7 F6 K6
              go_wp2_with fail
              refine ((unhide HS).t3 v7 F7).mono ?_
              rintro y v8 ⟨rfl, x8⟩
              dsimp only
              have F8 := F7.trans (x8.mono F7.size)
              have K8 := K7.below x8 K7.lt
              clear x8 F7 K7
              have l0 : v8.cell? ⟨gW, 0, none⟩ = some (.int .i64 (f : Int)) := (K8.cell 0).trans rfl
              have l1 : v8.cell? ⟨gW, 1, none⟩ = some (.int .i64 r2) := (K8.cell 1).trans rfl
              have l2 : v8.cell? ⟨gW, 2, none⟩ = some (.int .i64 u3) := (K8.cell 2).trans rfl
              clear K8
              go_wp2_with fail
              go_roundw
              case rel => exact ⟨⟨_, rfl⟩, ⟨_, rfl⟩, ⟨_, rfl⟩, ⟨_, rfl⟩, ⟨_, rfl⟩, ⟨_, rfl⟩, ⟨_, rfl⟩, ⟨_, rfl⟩, ⟨_, rfl⟩, ⟨_, rfl⟩, ⟨_, rfl⟩, ⟨_, rfl⟩, ⟨_, rfl⟩, p + 1, at', rfl, by rw [e6]; exact cast_one_add p, c, hide hA', hide F8⟩
              case measure => rw [e6]; exact meas_lt c
        · have x3 := (Below.refl v2'.heap.size v2').alloc (Nat.le_refl _) (.cells #[.int .i32 65533, .int .i64 (sn : Int), .bool false] 68)
          have g3 := push_get v2' (.cells #[.int .i32 65533, .int .i64 (sn : Int), .bool false] 68)
          generalize v2'.alloc (.cells #[.int .i32 65533, .int .i64 (sn : Int), .bool false] 68) = v3 at *
          have F4 := F3.trans (x3.mono F3.size)
          clear x3 F3
          generalize v2'.heap.size = gS at *
          obtain ⟨q0, q1, q2, _⟩ := cells3S g3
          have HSW := hide fun (X : World) (hx : Below v3.heap.size v3 X) => And.intro (cells3S (bk9_on g3 hx)).1 (And.intro (cells3S (bk9_on g3 hx)).2.1 (cells3S (bk9_on g3 hx)).2.2.1)
          have HG3 := hide fun (X : World) (hx : Below v3.heap.size v3 X) => cells3S (bk9_on g3 hx)
          have E0 : Below v3.heap.size v3 v3.drew := (Below.refl _ _).drew
          have b1 : ((sn : Int) == 1) = true := by rw [hn1]; rfl
          clear g3 hn1
          go_upto_region 18 with fail
          refine regionL (S := fun w' => w'.cell? ⟨gS, 0, none⟩ = some (.int .i32 65533) ∧ w'.cell? ⟨gS, 1, none⟩ = some (.int .i64 (sn : Int)) ∧ w'.cell? ⟨gS, 2, none⟩ = some (.bool false)) (fun _ => false) (by kernel_rfl) ?_
          generalize hy0 : v3.drew = y0 at *
          refine anyL_take (i := 0) (v := ?vssc64) rfl (by kernel_rfl) (by kernel_rfl) (by kernel_rfl) (by kernel_rfl) (fun _ _ _ h => h) (Or.inl ⟨by rfl, ?hssc64⟩) (unhide HSW _ E0) ?_
          case hssc64 => (intro w hSw; (try dsimp only at hSw); go_simp) <;> with_reducible rfl
          simp only [Act.put, List.getElem_toArray, List.getElem_cons_zero, List.setIfInBounds_toArray, List.set_cons_zero, List.set_cons_succ]
          refine anyL_take (i := 1) (v := ?vssc65) rfl (by kernel_rfl) (by kernel_rfl) (by kernel_rfl) (by kernel_rfl) (fun _ _ _ h => h) (Or.inl ⟨by rfl, ?hssc65⟩) (unhide HSW _ E0) ?_
          case hssc65 => (intro w hSw; (try dsimp only at hSw); go_simp) <;> with_reducible rfl
          simp only [Act.put, List.getElem_toArray, List.getElem_cons_zero, List.getElem_cons_succ, List.setIfInBounds_toArray, List.set_cons_zero, List.set_cons_succ]
          refine anyL_take (i := 2) (v := ?vssc66) rfl (by kernel_rfl) (by kernel_rfl) (by kernel_rfl) (by kernel_rfl) (fun _ _ _ h => h) (Or.inl ⟨by rfl, ?hssc66⟩) (unhide HSW _ E0) ?_
          case hssc66 => (intro w hSw; (try dsimp only at hSw); go_simp) <;> with_reducible rfl
          simp only [Act.put, List.getElem_toArray, List.getElem_cons_zero, List.getElem_cons_succ, List.setIfInBounds_toArray, List.set_cons_zero, List.set_cons_succ]
          refine anyL_take (i := 3) (v := ?vssc67) rfl (by kernel_rfl) (by kernel_rfl) (by kernel_rfl) (by kernel_rfl) (fun _ _ _ h => h) (Or.inl ⟨by rfl, ?hssc67⟩) (unhide HSW _ E0) ?_
          case hssc67 => (intro w hSw; (try dsimp only at hSw); go_simp) <;> with_reducible rfl
          simp only [Act.put, List.getElem_toArray, List.getElem_cons_zero, List.getElem_cons_succ, List.setIfInBounds_toArray, List.set_cons_zero, List.set_cons_succ]
          refine anyL_take (i := 4) (v := ?vssc68) rfl (by kernel_rfl) (by kernel_rfl) (by kernel_rfl) (by kernel_rfl) (fun _ _ _ h => h) (Or.inl ⟨by rfl, ?hssc68⟩) (unhide HSW _ E0) ?_
          case hssc68 => (intro w hSw; (try dsimp only at hSw); go_simp) <;> with_reducible rfl
          simp only [Act.put, List.getElem_toArray, List.getElem_cons_zero, List.getElem_cons_succ, List.setIfInBounds_toArray, List.set_cons_zero, List.set_cons_succ]
          refine anyL_take (i := 5) (v := ?vssc69) rfl (by kernel_rfl) (by kernel_rfl) (by kernel_rfl) (by kernel_rfl) (fun _ _ _ h => h) (Or.inl ⟨by rfl, ?hssc69⟩) (unhide HSW _ E0) ?_
          case hssc69 => (intro w hSw; (try dsimp only at hSw); go_simp) <;> with_reducible rfl
          simp only [Act.put, List.getElem_toArray, List.getElem_cons_zero, List.getElem_cons_succ, List.setIfInBounds_toArray, List.set_cons_zero, List.set_cons_succ]
          refine anyL_take (i := 6) (v := ?vssc70) rfl (by kernel_rfl) (by kernel_rfl) (by kernel_rfl) (by kernel_rfl) (fun _ _ _ h => h) (Or.inl ⟨by rfl, ?hssc70⟩) (unhide HSW _ E0) ?_
          case hssc70 => (intro w hSw; (try dsimp only at hSw); go_simp) <;> with_reducible rfl
          simp only [Act.put, List.getElem_toArray, List.getElem_cons_zero, List.getElem_cons_succ, List.setIfInBounds_toArray, List.set_cons_zero, List.set_cons_succ]
          refine anyL_take (i := 7) (v := ?vssc71) rfl (by kernel_rfl) (by kernel_rfl) (by kernel_rfl) (by kernel_rfl) (fun _ _ _ h => h) (Or.inl ⟨by rfl, ?hssc71⟩) (unhide HSW _ E0) ?_
          case hssc71 => (intro w hSw; (try dsimp only at hSw); go_simp) <;> with_reducible rfl
          simp only [Act.put, List.getElem_toArray, List.getElem_cons_zero, List.getElem_cons_succ, List.setIfInBounds_toArray, List.set_cons_zero, List.set_cons_succ]
          refine anyL_take (i := 8) (v := ?vssc72) rfl (by kernel_rfl) (by kernel_rfl) (by kernel_rfl) (by kernel_rfl) (fun _ _ _ h => h) (Or.inl ⟨by rfl, ?hssc72⟩) (unhide HSW _ E0) ?_
          case hssc72 => (intro w hSw; (try dsimp only at hSw); go_simp) <;> with_reducible rfl
          simp only [Act.put, List.getElem_toArray, List.getElem_cons_zero, List.getElem_cons_succ, List.setIfInBounds_toArray, List.set_cons_zero, List.set_cons_succ]
          refine anyL_take (i := 9) (v := ?vssc73) rfl (by kernel_rfl) (by kernel_rfl) (by kernel_rfl) (by kernel_rfl) (fun _ _ _ h => h) (Or.inl ⟨by rfl, ?hssc73⟩) (unhide HSW _ E0) ?_
          case hssc73 => (intro w hSw; (try dsimp only at hSw); go_simp) <;> with_reducible rfl
          simp only [Act.put, List.getElem_toArray, List.getElem_cons_zero, List.getElem_cons_succ, List.setIfInBounds_toArray, List.set_cons_zero, List.set_cons_succ]
          refine anyL_take (i := 10) (v := ?vssc74) rfl (by kernel_rfl) (by kernel_rfl) (by kernel_rfl) (by kernel_rfl) (fun _ _ _ h => h) (Or.inl ⟨by rfl, ?hssc74⟩) (unhide HSW _ E0) ?_
          case hssc74 => (intro w hSw; (try dsimp only at hSw); go_simp) <;> with_reducible rfl
          simp only [Act.put, List.getElem_toArray, List.getElem_cons_zero, List.getElem_cons_succ, List.setIfInBounds_toArray, List.set_cons_zero, List.set_cons_succ]
          refine anyL_take (i := 11) (v := ?vssc75) rfl (by kernel_rfl) (by kernel_rfl) (by kernel_rfl) (by kernel_rfl) (fun _ _ _ h => h) (Or.inl ⟨by rfl, ?hssc75⟩) (unhide HSW _ E0) ?_
          case hssc75 => (intro w hSw; (try dsimp only at hSw); go_simp) <;> with_reducible rfl
          simp only [Act.put, List.getElem_toArray, List.getElem_cons_zero, List.getElem_cons_succ, List.setIfInBounds_toArray, List.set_cons_zero, List.set_cons_succ]
          refine anyL_take (i := 12) (v := ?vssc76) rfl (by kernel_rfl) (by kernel_rfl) (by kernel_rfl) (by kernel_rfl) (fun _ _ _ h => h) (Or.inl ⟨by rfl, ?hssc76⟩) (unhide HSW _ E0) ?_
          case hssc76 => (intro w hSw; (try dsimp only at hSw); go_simp) <;> with_reducible rfl
          simp only [Act.put, List.getElem_toArray, List.getElem_cons_zero, List.getElem_cons_succ, List.setIfInBounds_toArray, List.set_cons_zero, List.set_cons_succ]
          refine anyL_take (i := 13) (v := ?vssc77) rfl (by kernel_rfl) (by kernel_rfl) (by kernel_rfl) (by kernel_rfl) (fun _ _ _ h => h) (Or.inl ⟨by rfl, ?hssc77⟩) (unhide HSW _ E0) ?_
          case hssc77 => (intro w hSw; (try dsimp only at hSw); go_simp) <;> with_reducible rfl
          simp only [Act.put, List.getElem_toArray, List.getElem_cons_zero, List.getElem_cons_succ, List.setIfInBounds_toArray, List.set_cons_zero, List.set_cons_succ]
          refine anyL_take (i := 14) (v := ?vssc78) rfl (by kernel_rfl) (by kernel_rfl) (by kernel_rfl) (by kernel_rfl) (fun _ _ _ h => h) (Or.inl ⟨by rfl, ?hssc78⟩) (unhide HSW _ E0) ?_
          case hssc78 => (intro w hSw; (try dsimp only at hSw); go_simp) <;> with_reducible rfl
          simp only [Act.put, List.getElem_toArray, List.getElem_cons_zero, List.getElem_cons_succ, List.setIfInBounds_toArray, List.set_cons_zero, List.set_cons_succ]
          refine anyL_take (i := 15) (v := undef) rfl (by kernel_rfl) (by kernel_rfl) (by kernel_rfl) (by kernel_rfl) (fun _ _ _ h => h) (Or.inr ⟨by rfl, rfl⟩) (unhide HSW _ E0) ?_
          simp only [Act.put, List.getElem_toArray, List.getElem_cons_zero, List.getElem_cons_succ, List.setIfInBounds_toArray, List.set_cons_zero, List.set_cons_succ]
          refine anyL_take (i := 16) (v := undef) rfl (by kernel_rfl) (by kernel_rfl) (by kernel_rfl) (by kernel_rfl) (fun _ _ _ h => h) (Or.inr ⟨by rfl, rfl⟩) (unhide HSW _ E0) ?_
          simp only [Act.put, List.getElem_toArray, List.getElem_cons_zero, List.getElem_cons_succ, List.setIfInBounds_toArray, List.set_cons_zero, List.set_cons_succ]
          refine anyL_take (i := 17) (v := undef) rfl (by kernel_rfl) (by kernel_rfl) (by kernel_rfl) (by kernel_rfl) (fun _ _ _ h => h) (Or.inr ⟨by rfl, rfl⟩) (unhide HSW _ E0) ?_
          simp only [Act.put, List.getElem_toArray, List.getElem_cons_zero, List.getElem_cons_succ, List.setIfInBounds_toArray, List.set_cons_zero, List.set_cons_succ]
          refine anyL_take (i := 18) (v := undef) rfl (by kernel_rfl) (by kernel_rfl) (by kernel_rfl) (by kernel_rfl) (fun _ _ _ h => h) (Or.inr ⟨by rfl, rfl⟩) (unhide HSW _ E0) ?_
          simp only [Act.put, List.getElem_toArray, List.getElem_cons_zero, List.getElem_cons_succ, List.setIfInBounds_toArray, List.set_cons_zero, List.set_cons_succ]
          refine anyL_take (i := 19) (v := undef) rfl (by kernel_rfl) (by kernel_rfl) (by kernel_rfl) (by kernel_rfl) (fun _ _ _ h => h) (Or.inr ⟨by rfl, rfl⟩) (unhide HSW _ E0) ?_
          simp only [Act.put, List.getElem_toArray, List.getElem_cons_zero, List.getElem_cons_succ, List.setIfInBounds_toArray, List.set_cons_zero, List.set_cons_succ]
          refine anyL_take (i := 20) (v := undef) rfl (by kernel_rfl) (by kernel_rfl) (by kernel_rfl) (by kernel_rfl) (fun _ _ _ h => h) (Or.inr ⟨by rfl, rfl⟩) (unhide HSW _ E0) ?_
          simp only [Act.put, List.getElem_toArray, List.getElem_cons_zero, List.getElem_cons_succ, List.setIfInBounds_toArray, List.set_cons_zero, List.set_cons_succ]
          refine anyL_take (i := 21) (v := undef) rfl (by kernel_rfl) (by kernel_rfl) (by kernel_rfl) (by kernel_rfl) (fun _ _ _ h => h) (Or.inr ⟨by rfl, rfl⟩) (unhide HSW _ E0) ?_
          simp only [Act.put, List.getElem_toArray, List.getElem_cons_zero, List.getElem_cons_succ, List.setIfInBounds_toArray, List.set_cons_zero, List.set_cons_succ]
          refine anyL_take (i := 22) (v := undef) rfl (by kernel_rfl) (by kernel_rfl) (by kernel_rfl) (by kernel_rfl) (fun _ _ _ h => h) (Or.inr ⟨by rfl, rfl⟩) (unhide HSW _ E0) ?_
          simp only [Act.put, List.getElem_toArray, List.getElem_cons_zero, List.getElem_cons_succ, List.setIfInBounds_toArray, List.set_cons_zero, List.set_cons_succ]
          refine anyL_take (i := 23) (v := undef) rfl (by kernel_rfl) (by kernel_rfl) (by kernel_rfl) (by kernel_rfl) (fun _ _ _ h => h) (Or.inr ⟨by rfl, rfl⟩) (unhide HSW _ E0) ?_
          simp only [Act.put, List.getElem_toArray, List.getElem_cons_zero, List.getElem_cons_succ, List.setIfInBounds_toArray, List.set_cons_zero, List.set_cons_succ]
          refine anyL_take (i := 24) (v := undef) rfl (by kernel_rfl) (by kernel_rfl) (by kernel_rfl) (by kernel_rfl) (fun _ _ _ h => h) (Or.inr ⟨by rfl, rfl⟩) (unhide HSW _ E0) ?_
          simp only [Act.put, List.getElem_toArray, List.getElem_cons_zero, List.getElem_cons_succ, List.setIfInBounds_toArray, List.set_cons_zero, List.set_cons_succ]
          refine anyL_take (i := 25) (v := undef) rfl (by kernel_rfl) (by kernel_rfl) (by kernel_rfl) (by kernel_rfl) (fun _ _ _ h => h) (Or.inr ⟨by rfl, rfl⟩) (unhide HSW _ E0) ?_
          simp only [Act.put, List.getElem_toArray, List.getElem_cons_zero, List.getElem_cons_succ, List.setIfInBounds_toArray, List.set_cons_zero, List.set_cons_succ]
          refine anyL_take (i := 26) (v := undef) rfl (by kernel_rfl) (by kernel_rfl) (by kernel_rfl) (by kernel_rfl) (fun _ _ _ h => h) (Or.inr ⟨by rfl, rfl⟩) (unhide HSW _ E0) ?_
          simp only [Act.put, List.getElem_toArray, List.getElem_cons_zero, List.getElem_cons_succ, List.setIfInBounds_toArray, List.set_cons_zero, List.set_cons_succ]
          refine anyL_take (i := 27) (v := undef) rfl (by kernel_rfl) (by kernel_rfl) (by kernel_rfl) (by kernel_rfl) (fun _ _ _ h => h) (Or.inr ⟨by rfl, rfl⟩) (unhide HSW _ E0) ?_
          simp only [Act.put, List.getElem_toArray, List.getElem_cons_zero, List.getElem_cons_succ, List.setIfInBounds_toArray, List.set_cons_zero, List.set_cons_succ]
          refine anyL_take (i := 28) (v := undef) rfl (by kernel_rfl) (by kernel_rfl) (by kernel_rfl) (by kernel_rfl) (fun _ _ _ h => h) (Or.inr ⟨by rfl, rfl⟩) (unhide HSW _ E0) ?_
          simp only [Act.put, List.getElem_toArray, List.getElem_cons_zero, List.getElem_cons_succ, List.setIfInBounds_toArray, List.set_cons_zero, List.set_cons_succ]
          refine anyL_take (i := 29) (v := undef) rfl (by kernel_rfl) (by kernel_rfl) (by kernel_rfl) (by kernel_rfl) (fun _ _ _ h => h) (Or.inr ⟨by rfl, rfl⟩) (unhide HSW _ E0) ?_
          simp only [Act.put, List.getElem_toArray, List.getElem_cons_zero, List.getElem_cons_succ, List.setIfInBounds_toArray, List.set_cons_zero, List.set_cons_succ]
          refine anyL_take (i := 30) (v := ?vssc94) rfl (by kernel_rfl) (by kernel_rfl) (by kernel_rfl) (by kernel_rfl) (fun _ _ _ h => h) (Or.inl ⟨by rfl, ?hssc94⟩) (unhide HSW _ E0) ?_
          case hssc94 => (intro w hSw; (try dsimp only at hSw); go_simp) <;> with_reducible rfl
          simp only [Act.put, List.getElem_toArray, List.getElem_cons_zero, List.getElem_cons_succ, List.setIfInBounds_toArray, List.set_cons_zero, List.set_cons_succ]
          refine anyL_take (i := 31) (v := ?vssc95) rfl (by kernel_rfl) (by kernel_rfl) (by kernel_rfl) (by kernel_rfl) (fun _ _ _ h => h) (Or.inl ⟨by rfl, ?hssc95⟩) (unhide HSW _ E0) ?_
          case hssc95 => (intro w hSw; (try dsimp only at hSw); go_simp) <;> with_reducible rfl
          simp only [Act.put, List.getElem_toArray, List.getElem_cons_zero, List.getElem_cons_succ, List.setIfInBounds_toArray, List.set_cons_zero, List.set_cons_succ]
          refine anyL_done (by kernel_rfl) ?_ _
          have Fy := F4.trans (E0.mono F4.size)
          obtain ⟨q0, q1, q2, _⟩ := unhide HG3 y0 E0
          clear HSW F4 HG3
          rcases unhide HNX with ⟨hq, hfq, hA'⟩ | ⟨hq, hA'⟩
          · subst hq
            subst hfq
            go_wp2_with fail
            refine ((unhide HS).w1 y0 Fy).mono ?_
            rintro y v5 ⟨⟨k3, k4, k5, k6, rfl⟩, x5⟩
            dsimp only
            have F5 := Fy.trans (x5.mono Fy.size)
            clear x5 Fy q0 q1 q2
            go_upto_region 25 with fail
            have x6 := (Below.refl v5.heap.size v5).alloc (Nat.le_refl _) (.cells #[.int .i64 (f : Int), .int .i64 r2, .int .i64 u3, .int .i64 k3, .int .i64 k4, .int .i64 k5, .int .i64 k6] 44)
            have K6 := Cls.new v5 44 #[.int .i64 (f : Int), .int .i64 r2, .int .i64 u3, .int .i64 k3, .int .i64 k4, .int .i64 k5, .int .i64 k6]
            generalize v5.alloc (.cells #[.int .i64 (f : Int), .int .i64 r2, .int .i64 u3, .int .i64 k3, .int .i64 k4, .int .i64 k5, .int .i64 k6] 44) = v6 at *
            have F6 := F5.trans (x6.mono F5.size)
            clear x6 F5
            generalize v5.heap.size = gW at *
            go_wp2_with fail
            refine ((unhide HS).t2 v6 F6).mono ?_
            rintro y v7 ⟨rfl, x7⟩
            dsimp only
            have F7 := F6.trans (x7.mono F6.size)
            have K7 := K6.below x7 K6.lt
            clear x7 F6 K6
            go_wp2_with fail
            refine ((unhide HS).t3 v7 F7).mono ?_
            rintro y v8 ⟨rfl, x8⟩
            dsimp only
            have F8 := F7.trans (x8.mono F7.size)
            have K8 := K7.below x8 K7.lt
            clear x8 F7 K7
            have l0 : v8.cell? ⟨gW, 0, none⟩ = some (.int .i64 (f : Int)) := (K8.cell 0).trans rfl
            have l1 : v8.cell? ⟨gW, 1, none⟩ = some (.int .i64 r2) := (K8.cell 1).trans rfl
            have l2 : v8.cell? ⟨gW, 2, none⟩ = some (.int .i64 u3) := (K8.cell 2).trans rfl
            clear K8
            go_wp2_with fail
            go_roundw
            case rel => exact ⟨⟨_, rfl⟩, ⟨_, rfl⟩, ⟨_, rfl⟩, ⟨_, rfl⟩, ⟨_, rfl⟩, ⟨_, rfl⟩, ⟨_, rfl⟩, ⟨_, rfl⟩, ⟨_, rfl⟩, ⟨_, rfl⟩, ⟨_, rfl⟩, ⟨_, rfl⟩, ⟨_, rfl⟩, f + 1, f + sn, cast_add f sn, by rw [e6]; exact cast_one_add f, c, hide hA', hide F8⟩
            case measure => rw [e6]; exact meas_lt c
          · have b2 : ((p : Int) == (at' : Int)) = false := beq_ne hq
            go_wp2_with fail
            refine ((unhide HS).w1 y0 Fy).mono ?_
            rintro y v5 ⟨⟨k3, k4, k5, k6, rfl⟩, x5⟩
            dsimp only
            have F5 := Fy.trans (x5.mono Fy.size)
            clear x5 Fy q0 q1 q2
            go_upto_region 25 with fail
            have x6 := (Below.refl v5.heap.size v5).alloc (Nat.le_refl _) (.cells #[.int .i64 (f : Int), .int .i64 r2, .int .i64 u3, .int .i64 k3, .int .i64 k4, .int .i64 k5, .int .i64 k6] 44)
            have K6 := Cls.new v5 44 #[.int .i64 (f : Int), .int .i64 r2, .int .i64 u3, .int .i64 k3, .int .i64 k4, .int .i64 k5, .int .i64 k6]
            generalize v5.alloc (.cells #[.int .i64 (f : Int), .int .i64 r2, .int .i64 u3, .int .i64 k3, .int .i64 k4, .int .i64 k5, .int .i64 k6] 44) = v6 at *
            have F6 := F5.trans (x6.mono F5.size)
            clear x6 F5
            generalize v5.heap.size = gW at *
            go_wp2_with fail
            refine ((unhide HS).t2 v6 F6).mono ?_
            rintro y v7 ⟨rfl, x7⟩
            dsimp only
            have F7 := F6.trans (x7.mono F6.size)
            have K7 := K6.below x7 K6.lt
            clear x7 F6 K6
            go_wp2_with fail
            refine ((unhide HS).t3 v7 F7).mono ?_
            rintro y v8 ⟨rfl, x8⟩
            dsimp only
            have F8 := F7.trans (x8.mono F7.size)
            have K8 := K7.below x8 K7.lt
            clear x8 F7 K7
            have l0 : v8.cell? ⟨gW, 0, none⟩ = some (.int .i64 (f : Int)) := (K8.cell 0).trans rfl
            have l1 : v8.cell? ⟨gW, 1, none⟩ = some (.int .i64 r2) := (K8.cell 1).trans rfl
            have l2 : v8.cell? ⟨gW, 2, none⟩ = some (.int .i64 u3) := (K8.cell 2).trans rfl
            clear K8
            go_wp2_with fail
            go_roundw
            case rel => exact ⟨⟨_, rfl⟩, ⟨_, rfl⟩, ⟨_, rfl⟩, ⟨_, rfl⟩, ⟨_, rfl⟩, ⟨_, rfl⟩, ⟨_, rfl⟩, ⟨_, rfl⟩, ⟨_, rfl⟩, ⟨_, rfl⟩, ⟨_, rfl⟩, ⟨_, rfl⟩, ⟨_, rfl⟩, p + 1, at', rfl, by rw [e6]; exact cast_one_add p, c, hide hA', hide F8⟩
            case measure => rw [e6]; exact meas_lt c
      · have c1 : decide ((p : Int) < (N : Int)) = false := decide_eq_false (fun h => c (Int.ofNat_lt.1 h))
        have hpN : p = N := Nat.le_antisymm hp (Nat.not_lt.1 c)
        have hat : at' = N := by
          have h1 := unhide HA
          rw [hpN, (unhide HTT).2.1] at h1
          rw [(unhide HTT).2.1]
          exact h1.done
        rw [hat]
        have HAT := hide hat
        have t1 : ¬ (p : Int) < (N : Int) := fun h => c (Int.ofNat_lt.1 h)
        clear hp hpN hat HPK
        go_wp2_with fail
        refine (unhide HFN wr (unhide HD)).mono ?_
        rintro y v1 ⟨rfl, x1⟩
        dsimp only
        have F1 := (unhide HD).trans (x1.mono (unhide HD).size)
        clear x1
        go_wp2_with fail
        refine (unhide HSE v1 F1).mono ?_
        rintro y v2 ⟨rfl, x2⟩
        dsimp only
        have F2 := F1.trans (x2.mono F1.size)
        have b2 := (Below.refl v2.heap.size v2).alloc (Nat.le_refl _) (.cells #[.int .i32 0, .int .i64 0, .bool false] 68)
        have HB := hide ((unhide HX4).trans ((F2.trans (b2.mono F2.size)).mono (unhide HX4).size))
        clear x2 F1 F2 b2
        go_wp2_with fail
        go_ret
        exact ⟨rfl, unhide HB⟩

end Go.Proofs.YtophdhpkinedgaaGreatDoor
