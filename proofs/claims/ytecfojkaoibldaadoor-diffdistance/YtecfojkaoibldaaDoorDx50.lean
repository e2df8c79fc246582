/- Layer 19: the document's answer: Edges, Steps. · Layer 19: DiffMetric: the walk. -/
import Derived.Test.YtecfojkaoibldaaDoorDx48
import Derived.Test.YtecfojkaoibldaaDoorDx49

section
namespace Go.Proofs.YtecfojkaoibldaaDoor
open Go.ChangeShapes Go.WideShapes Go.ChangeAt Go.RowKit
attribute [local go_sem] Oper.semAt_some

set_option maxHeartbeats 1000000 in
theorem EdgesD_at (a0 : Option Addr) (cap : Nat) (l : List Int) (w : World) (hB : IsB w a0 cap l) (hl : l.length ≤ 1048576) :
    Calls Tryd.prog 40 #[.slice a0 l.length cap] w fun e w' => ∃ v, e = .returned v ∧ w'.ownsRow w.heap.size 3 1 v (cutS l).length (intsN (cutS l)) ∧ Below w.heap.size w w' := by
  go_enter Tryd.func40, Tryd.ntmps40
  go_wp2
  go_loopw [3, 4] (fun v i wx => ∃ p : Nat, p ≤ l.length + 1 ∧ i = .int .i64 p ∧ Hid (wx.ownsRow w.heap.size 3 1 v (edgesTo l p).length (intsN (edgesTo l p))) ∧ Below w.heap.size w wx) (fun _ i _ => l.length + 1 - (intOf i).toNat)
  case atStart => exact ⟨0, by omega, rfl, World.ownsRow_nil _ _ _ _, Below.refl _ _⟩
  case round =>
    obtain ⟨p, hp, rfl, ho, hb⟩ := hrel
    by_cases hlt : p ≤ l.length
    · cases hi : inside l p with
      | true =>
        have HI := hide hi
        have he := edgesTo_no hi
        clear hi
        have hBx := hB.below hb (Nat.le_refl _)
        go_wp2_with (go_at_call 33; refine (Inside_is a0 cap p l _ hBx hlt (unhide HI)).mono ?_; rintro e w' ⟨rfl, rfl⟩)
        go_roundw
        case rel => exact ⟨p + 1, by omega, by go_num, by rw [he]; exact ho, hb⟩
        case measure => simp [intOf]; omega
      | false =>
        have HI := hide hi
        have he := edgesTo_yes hi
        have hle := edgesTo_len l p
        clear hi
        have hBx := hB.below hb (Nat.le_refl _)
        obtain ⟨g, c, w2, r2, o2, x2⟩ := push_intS _ _ _ _ _ (p : Int) 51 (unhide ho) (by omega) hb.size
        have R2 := hide r2
        clear r2
        go_wp2_with (first
          | (go_at_call 33; refine (Inside_is a0 cap p l _ hBx hlt (unhide HI)).mono ?_; rintro e w' ⟨rfl, rfl⟩)
          | (at_builtin; refine wpList_append_known rfl _ _ 51 51 rfl _ _ rfl rfl _ _ (unhide R2) ?_))
        go_roundw
        case rel => exact ⟨p + 1, by omega, by go_num, by rw [he, List.length_append, intsN_snoc]; exact hide o2, hb.trans x2⟩
        case measure => simp [intOf]; omega
    · obtain rfl : p = l.length + 1 := by omega
      have ho' := unhide ho
      rw [edges_all] at ho'
      clear ho
      go_wp2
      go_ret
      exact ⟨_, rfl, ho', hb⟩
/-- texts in a row -/
def txC (ps : List (List Int)) : List Value := ps.map fun p => .string (strOfNums p)
def IsTx (X : World) (a : Option Addr) (ps : List (List Int)) : Prop := ps = [] ∨ ∃ g off, a = some ⟨g, off, none⟩ ∧ g < X.heap.size ∧ ∀ k, k < ps.length → X.cell? ⟨g, off + k, none⟩ = some (.string (strOfNums (ps.getD k [])))
theorem IsTx.below {X Y : World} {B : Nat} {a : Option Addr} {ps : List (List Int)} (h : IsTx X a ps) (hb : Below B X Y) (hB : X.heap.size ≤ B) : IsTx Y a ps := by
  rcases h with h | ⟨g, off, h1, h2, h3⟩
  · exact .inl h
  · exact .inr ⟨g, off, h1, Nat.lt_of_lt_of_le h2 hb.size, fun k hk => (hb.cell (p := ⟨g, off + k, none⟩) (Nat.lt_of_lt_of_le h2 hB)).trans (h3 k hk)⟩
theorem ra_txs {X : World} {v : Value} {ps : List (List Int)} {k : Option Nat} (h : RA X 1 v ps.length (txC ps) k) : ∃ a c, v = .slice a ps.length c ∧ IsTx X a ps := by
  rcases h.val with ⟨rfl, h0, _⟩ | ⟨g, off, c, rfl, _, hg, _, _, hc⟩
  · exact ⟨none, 0, by rw [h0], .inl (List.length_eq_zero_iff.1 h0)⟩
  · refine ⟨_, c, rfl, .inr ⟨g, off, rfl, hg, fun j hj => ?_⟩⟩
    rw [hc _ (by omega)]
    simp [txC, List.getD, List.getElem?_eq_getElem hj]
set_option maxRecDepth 100000 in
theorem push_txt (W : World) (v : Value) (n : Nat) (xs : List Value) (k : Option Nat) (s : ByteArray) (ty : TypeId) (h : RA W 1 v n xs k) (hn : n ≤ 1000000000) :
    ∃ v' Y k', (Builtin.append_ #[48, 48] ty #[v, .slice (some ⟨W.heap.size, 0, none⟩) 1 1]).run Tryd.prog (W.alloc (.cells #[.string s] 9)) = .ok v' Y ∧
      RA Y 1 v' (n + 1) (xs ++ [.string s]) k' ∧ KpF (fun b => k = some b) W Y ∧ ∀ G, k' = some G → (k = some G ∨ W.heap.size ≤ G) := by
  have h1 := h.allocd (.cells #[.string s] 9)
  obtain ⟨v', Y, k', hr, h2, h3, h4⟩ := h1.push (P := Tryd.prog) 48 ty 9 _ _ 16 Tryd.underlying48 rfl rfl rfl rfl rfl ⟨W.heap.size, 0, none⟩ 1 [.string s] rfl (fun j u hj => by
      cases j with
      | zero => simp at hj; subst hj; rw [Addr.add_lit]; exact (World.cell?_alloc_mark W _ _ (0, 0) 0).trans rfl
      | succ j => simp at hj) (fun u hu => by simp at hu; subst hu; rfl) hn (by omega)
  refine ⟨v', Y, k', hr, h2, (KpF.alloc (fun b => k = some b) W _).trans h3 (fun _ _ g => g), fun G hG => ?_⟩
  rcases h4 with ⟨e, _⟩ | e
  · exact .inl (e ▸ hG)
  · rw [e] at hG; cases hG; refine .inr ?_; simp
/-- what the loop over the edges keeps -/
structure TxI (w X : World) (ps : List (List Int)) (v : Value) : Prop where
  row : ∃ k, RA X 1 v ps.length (txC ps) k ∧ ∀ G, k = some G → w.heap.size ≤ G
  b : Below w.heap.size w X
theorem TxI.push {w X : World} {ps : List (List Int)} {v : Value} (h : TxI w X ps v) (p : List Int) (ty : TypeId) (hn : ps.length ≤ 2000000) :
    ∃ v' Y, (Builtin.append_ #[48, 48] ty #[v, .slice (some ⟨X.heap.size, 0, none⟩) 1 1]).run Tryd.prog (X.alloc (.cells #[.string (strOfNums p)] 9)) = .ok v' Y ∧ TxI w Y (ps ++ [p]) v' ∧ Below w.heap.size X Y := by
  obtain ⟨k, h1, h2⟩ := h.row
  obtain ⟨v', Y, k', r1, r2, r3, r4⟩ := push_txt X v ps.length (txC ps) k (strOfNums p) ty h1 (by omega)
  have hz := h.b.size
  have hb := r3.below hz (fun b e => h2 b e)
  refine ⟨v', Y, r1, ⟨⟨k', ?_, fun G hG => ?_⟩, h.b.trans hb⟩, hb⟩
  · rw [List.length_append, List.length_singleton, show txC (ps ++ [p]) = txC ps ++ [.string (strOfNums p)] by simp [txC]]; exact r2
  · rcases r4 G hG with e | e
    · exact h2 G e
    · omega
theorem TxI.dr {w X : World} {ps : List (List Int)} {v : Value} (h : TxI w X ps v) : TxI w X.drew ps v := by
  obtain ⟨k, h1, h2⟩ := h.row
  exact ⟨⟨k, h1.dN 1, h2⟩, h.b.drew⟩
set_option maxRecDepth 100000 in
set_option maxHeartbeats 4000000 in
theorem RSteps_at (a0 : Option Addr) (c0 : Nat) (l : List Int) (w : World) (hB : IsB w a0 c0 l) (hl : l.length ≤ 1048576) :
    Calls Tryd.prog 25 #[.slice a0 l.length c0] w fun e w' => ∃ v, e = .returned v ∧ TxI w w' (cutP l (cutS l)) v := by
  have HC := hide (EdgesD_at a0 c0 l w hB hl)
  have HB := hide hB
  have hcap := hB.1
  have hln := (cutS_ok l).len
  have hps := (cutS_ok l).pos
  clear hB
  go_enter Tryd.func25, Tryd.ntmps25
  go_wp2_with fail
  refine (unhide HC).mono ?_
  rintro e w1 ⟨v, rfl, ho, hb1⟩
  dsimp only
  obtain ⟨a1, c1, rfl, hi1, _⟩ := own_isI ho
  have HI := hide hi1
  have HB1 := hide hb1
  clear HC ho hi1 hb1
  have H0 : Hid (TxI w1 w1 ((cutP l (cutS l)).take 0) (.slice none 0 0)) := hide ⟨⟨none, RA.nil w1 1, fun _ e => by cases e⟩, Below.refl _ _⟩
  go_wp2_with fail
  go_loopw [3, 5] (fun v3 v5 wx => ∃ i : Nat, v5 = .int .i64 (i : Int) ∧ i + 1 ≤ (cutS l).length ∧ Hid (TxI w1 wx ((cutP l (cutS l)).take i) v3)) (fun _ v5 _ => (cutS l).length - (intOf v5).toNat)
  case atStart => exact ⟨0, rfl, hps, H0⟩
  case round =>
    clear H0
    obtain ⟨i, rfl, hi1, HT⟩ := hrel
    by_cases h1 : i + 1 < (cutS l).length
    · have t1 : decide ((i : Int) + 1 < ((cutS l).length : Int)) = true := decide_eq_true (by omega)
      have hbx := (unhide HT).b
      obtain ⟨g, off, rfl, hg, cx⟩ := ((unhide HI).below hbx (Nat.le_refl _)).at (k := i) (by omega)
      have k1 := cx i (by omega)
      have k2 := cx (i + 1) h1
      have f1 : (i : Int) < ((cutS l).length : Int) := by omega
      have f2 : (i : Int) + 1 < ((cutS l).length : Int) := by omega
      have f3 : (0 : Int) ≤ (i : Int) := by omega
      have f4 : (0 : Int) ≤ (i : Int) + 1 := by omega
      have m1 := (cutS_ok l).le (show i ≤ i + 1 by omega) h1
      have m2 := (cutS_ok l).at_le h1
      have HCT := hide (cut_take (l := l) h1)
      obtain ⟨A, hA⟩ : ∃ A, (if c0 = (cutS l).getD i 0 then a0 else a0.map (·.add ((cutS l).getD i 0))) = A := ⟨_, rfl⟩
      have HBT : ∀ X, Below w.heap.size w X → IsB X A (c0 - (cutS l).getD i 0) (subL l ((cutS l).getD i 0) ((cutS l).getD (i + 1) 0)) := fun X hX => by rw [← hA]; exact (((unhide HB).below hX (Nat.le_refl _)).loD (n := (cutS l).getD i 0)).takeD (n := (cutS l).getD (i + 1) 0 - (cutS l).getD i 0)
      have htl : (cutS l).getD (i + 1) 0 - (cutS l).getD i 0 = (subL l ((cutS l).getD i 0) ((cutS l).getD (i + 1) 0)).length := (sub_len (cutS_ok l) (by omega) h1).symm
      generalize subL l ((cutS l).getD i 0) ((cutS l).getD (i + 1) 0) = pp at *
      obtain ⟨v', Y, hr, hn, hy⟩ := (unhide HT).dr.push pp 48 (by rw [List.length_take]; omega)
      have XA : Below w.heap.size w wr := (unhide HB1).trans (hbx.mono (unhide HB1).size)
      have S0 : wr.drew.cell? ⟨g, off + i, none⟩ = some (.int .i64 (((cutS l).getD i 0 : Nat) : Int)) ∧ wr.drew.cell? ⟨g, off + (i + 1), none⟩ = some (.int .i64 (((cutS l).getD (i + 1) 0 : Nat) : Int)) ∧ (convert 22 9 (.slice A pp.length (c0 - (cutS l).getD i 0))).run Tryd.prog wr.drew = .ok (.string (strOfNums pp)) wr.drew := ⟨k1, k2, str_bs _ A _ pp (HBT _ XA.drew).2.2.1⟩
      have b2 := XA.drew.alloc XA.drew.size (.cells #[.string (strOfNums pp)] 9)
      have hgw : g < w1.heap.size := by
        obtain ⟨_, _, e, h, _⟩ := (unhide HI).at (k := i) (by omega)
        cases e; exact h
      have hal : ∀ {o : Nat} {x : Value}, wr.drew.cell? ⟨g, o, none⟩ = some x → (wr.drew.alloc (.cells #[.string (strOfNums pp)] 9)).cell? ⟨g, o, none⟩ = some x := fun h => (World.cell?_of_block (a := ⟨_, _, none⟩) (heap_alloc_old _ _ (cell_lt h))).trans h
      have S1 := And.intro (hal S0.1) (And.intro (hal S0.2.1) (str_bs _ A (c0 - (cutS l).getD i 0) pp (HBT _ b2).2.2.1))
      have S2 := And.intro ((hy.cell (p := ⟨g, off + i, none⟩) hgw).trans S0.1) (And.intro ((hy.cell (p := ⟨g, off + (i + 1), none⟩) hgw).trans S0.2.1) (str_bs _ A (c0 - (cutS l).getD i 0) pp (HBT _ (XA.drew.trans (hy.mono (unhide HB1).size))).2.2.1))
      have R1 := hide hr
      have HN := hide hn
      clear HBT hr hn hy b2 hal XA cx HT hbx k1 k2 hg hgw
      generalize (cutS l).getD i 0 = lo at *
      generalize (cutS l).getD (i + 1) 0 = hi at *
      have e1 : IntKind.i64.wrap ((i : Int) + 1) = (i : Int) + 1 := by rw [IntKind.wrap_i64]; omega
      have f5 : (lo : Int) ≤ (hi : Int) := by clear e1; omega
      have f6 : (hi : Int) ≤ (c0 : Int) := by clear e1; omega
      have f7 : hi ≤ c0 := by clear e1; omega
      have f8 : (0 : Int) ≤ (lo : Int) := by clear e1; omega
      go_wp2_with fail
      refine regionL (S := fun w' => w'.cell? ⟨g, off + i, none⟩ = some (.int .i64 (lo : Int)) ∧ w'.cell? ⟨g, off + (i + 1), none⟩ = some (.int .i64 (hi : Int)) ∧ (convert 22 9 (.slice A pp.length (c0 - lo))).run Tryd.prog w' = .ok (.string (strOfNums pp)) w') (fun _ => false) (by kernel_rfl) ?_
      generalize wr.drew = v2 at *
      refine anyL_take (i := 0) (v := ?vq0) rfl (by kernel_rfl) (by kernel_rfl) (by kernel_rfl) (by kernel_rfl) (fun _ _ _ h => h) (Or.inl ⟨by rfl, ?hq0⟩) (S0) ?_
      case hq0 => (intro w hSw; (try dsimp only at hSw); go_simp) <;> with_reducible rfl
      simp only [Act.put, List.getElem_toArray, List.getElem_cons_zero, List.setIfInBounds_toArray, List.set_cons_zero, List.set_cons_succ]
      refine anyL_take (i := 1) (v := ?vq1) rfl (by kernel_rfl) (by kernel_rfl) (by kernel_rfl) (by kernel_rfl) (fun _ _ _ h => h) (Or.inl ⟨by rfl, ?hq1⟩) (S0) ?_
      case hq1 => (intro w hSw; (try dsimp only at hSw); go_simp) <;> with_reducible rfl
      simp only [Act.put, List.getElem_toArray, List.getElem_cons_zero, List.getElem_cons_succ, List.setIfInBounds_toArray, List.set_cons_zero, List.set_cons_succ]
      refine anyL_take (i := 2) (v := ?vq2) rfl (by kernel_rfl) (by kernel_rfl) (by kernel_rfl) (by kernel_rfl) (fun _ _ _ h => h) (Or.inl ⟨by rfl, ?hq2⟩) (S0) ?_
      case hq2 => (intro w hSw; (try dsimp only at hSw); go_simp) <;> with_reducible rfl
      simp only [Act.put, List.getElem_toArray, List.getElem_cons_zero, List.getElem_cons_succ, List.setIfInBounds_toArray, List.set_cons_zero, List.set_cons_succ]
      refine anyL_take (i := 3) (v := ?vq3) rfl (by kernel_rfl) (by kernel_rfl) (by kernel_rfl) (by kernel_rfl) (fun _ _ _ h => h) (Or.inl ⟨by rfl, ?hq3⟩) (S0) ?_
      case hq3 => (intro w hSw; (try dsimp only at hSw); go_simp) <;> with_reducible rfl
      simp only [Act.put, List.getElem_toArray, List.getElem_cons_zero, List.getElem_cons_succ, List.setIfInBounds_toArray, List.set_cons_zero, List.set_cons_succ]
      refine anyL_take (i := 4) (v := ?vq4) rfl (by kernel_rfl) (by kernel_rfl) (by kernel_rfl) (by kernel_rfl) (fun _ _ _ h => h) (Or.inl ⟨by rfl, ?hq4⟩) (S0) ?_
      case hq4 => (intro w hSw; (try dsimp only at hSw); go_simp) <;> with_reducible rfl
      simp only [Act.put, List.getElem_toArray, List.getElem_cons_zero, List.getElem_cons_succ, List.setIfInBounds_toArray, List.set_cons_zero, List.set_cons_succ]
      refine anyL_take (i := 5) (v := ?vq5) rfl (by kernel_rfl) (by kernel_rfl) (by kernel_rfl) (by kernel_rfl) (fun _ _ _ h => h) (Or.inl ⟨by rfl, ?hq5⟩) (S0) ?_
      case hq5 => (intro w hSw; (try dsimp only at hSw); go_simp) <;> with_reducible rfl
      simp only [Act.put, List.getElem_toArray, List.getElem_cons_zero, List.getElem_cons_succ, List.setIfInBounds_toArray, List.set_cons_zero, List.set_cons_succ]
      refine anyL_take (i := 6) (v := ?vq6) rfl (by kernel_rfl) (by kernel_rfl) (by kernel_rfl) (by kernel_rfl) (fun _ _ _ h => h) (Or.inl ⟨by rfl, ?hq6⟩) (S0) ?_
      case hq6 => (intro w hSw; (try dsimp only at hSw); go_simp) <;> with_reducible rfl
      simp only [Act.put, List.getElem_toArray, List.getElem_cons_zero, List.getElem_cons_succ, List.setIfInBounds_toArray, List.set_cons_zero, List.set_cons_succ]
      refine anyL_take (i := 7) (v := ?vq7) rfl (by kernel_rfl) (by kernel_rfl) (by kernel_rfl) (by kernel_rfl) (fun _ _ _ h => h) (Or.inl ⟨by rfl, ?hq7⟩) (S0) ?_
      case hq7 => (intro w hSw; (try dsimp only at hSw); go_simp) <;> with_reducible rfl
      simp only [Act.put, List.getElem_toArray, List.getElem_cons_zero, List.getElem_cons_succ, List.setIfInBounds_toArray, List.set_cons_zero, List.set_cons_succ]
      refine anyL_take (i := 8) (v := ?vq8) rfl (by kernel_rfl) (by kernel_rfl) (by kernel_rfl) (by kernel_rfl) (fun _ _ _ h => h) (Or.inl ⟨by rfl, ?hq8⟩) (S0) ?_
      case hq8 => (intro w hSw; (try dsimp only at hSw); go_simp) <;> with_reducible rfl
      simp only [Act.put, List.getElem_toArray, List.getElem_cons_zero, List.getElem_cons_succ, List.setIfInBounds_toArray, List.set_cons_zero, List.set_cons_succ]
      refine anyL_take (i := 9) (v := ?vq9) rfl (by kernel_rfl) (by kernel_rfl) (by kernel_rfl) (by kernel_rfl) (fun _ _ _ h => h) (Or.inl ⟨by rfl, ?hq9⟩) (S0) ?_
      case hq9 => (intro w hSw; (try dsimp only at hSw); go_simp) <;> with_reducible rfl
      simp only [Act.put, List.getElem_toArray, List.getElem_cons_zero, List.getElem_cons_succ, List.setIfInBounds_toArray, List.set_cons_zero, List.set_cons_succ]
      refine anyL_take (i := 10) (v := ?vq10) rfl (by kernel_rfl) (by kernel_rfl) (by kernel_rfl) (by kernel_rfl) (fun _ _ _ h => h) (Or.inl ⟨by rfl, ?hq10⟩) (S0) ?_
      case hq10 => (intro w hSw; (try dsimp only at hSw); go_simp) <;> with_reducible rfl
      simp only [Act.put, List.getElem_toArray, List.getElem_cons_zero, List.getElem_cons_succ, List.setIfInBounds_toArray, List.set_cons_zero, List.set_cons_succ]
      refine anyL_take (i := 11) (v := ?vq11) rfl (by kernel_rfl) (by kernel_rfl) (by kernel_rfl) (by kernel_rfl) (fun _ _ _ h => h) (Or.inl ⟨by rfl, ?hq11⟩) (S0) ?_
      case hq11 => (intro w hSw; (try dsimp only at hSw); go_simp) <;> with_reducible rfl
      simp only [Act.put, List.getElem_toArray, List.getElem_cons_zero, List.getElem_cons_succ, List.setIfInBounds_toArray, List.set_cons_zero, List.set_cons_succ]
      refine anyL_take (i := 12) (v := ?vq12) rfl (by kernel_rfl) (by kernel_rfl) (by kernel_rfl) (by kernel_rfl) (fun _ _ _ h => h) (Or.inl ⟨by rfl, ?hq12⟩) (S0) ?_
      case hq12 => (intro w hSw; (try dsimp only at hSw); go_simp) <;> with_reducible rfl
      simp only [Act.put, List.getElem_toArray, List.getElem_cons_zero, List.getElem_cons_succ, List.setIfInBounds_toArray, List.set_cons_zero, List.set_cons_succ]
      refine anyL_ready (rs := [13]) (by kernel_rfl) (by simp) ?_
      refine AllL.cons rfl (fun K hK => ?_) AllL.nil
      go_simp
      refine unhide hK _ _ (fun _ => S1) ?_
      clear hK K
      refine anyL_ready (rs := [14]) (by kernel_rfl) (by simp) ?_
      refine AllL.cons rfl (fun K hK => ?_) AllL.nil
      refine step_append_knownT rfl _ _ 48 48 rfl _ _ rfl rfl _ _ (unhide R1) ?_
      go_simp
      refine unhide hK _ _ (fun _ => S2) ?_
      clear hK K
      refine anyL_take (i := 15) (v := ?vq13) rfl (by kernel_rfl) (by kernel_rfl) (by kernel_rfl) (by kernel_rfl) (fun _ _ _ h => h) (Or.inl ⟨by rfl, ?hq13⟩) (S2) ?_
      case hq13 => (intro w hSw; (try dsimp only at hSw); go_simp) <;> with_reducible rfl
      simp only [Act.put, List.getElem_toArray, List.getElem_cons_zero, List.getElem_cons_succ, List.setIfInBounds_toArray, List.set_cons_zero, List.set_cons_succ]
      refine anyL_done (by kernel_rfl) ?_ _
      clear S0 S1 S2 R1 e1
      go_wp2_with fail
      go_roundw
      case rel => exact ⟨i + 1, by go_num, h1, hide (by rw [unhide HCT]; exact unhide HN)⟩
      case measure => simp [intOf]; omega
    · have t1 : decide ((i : Int) + 1 < ((cutS l).length : Int)) = false := decide_eq_false (by omega)
      have HE : Hid (TxI w1 wr (cutP l (cutS l)) u3) := hide (by have := unhide HT; rwa [List.take_of_length_le (by rw [cutP_len]; omega)] at this)
      clear HT
      go_wp2_with fail
      refine bodyPost_ret (results_tmp rfl _ _ _) rfl ⟨u3, rfl, ?_⟩
      obtain ⟨k, q1, q2⟩ := (unhide HE).row
      exact ⟨⟨k, q1, fun G e => Nat.le_trans (unhide HB1).size (q2 G e)⟩, (unhide HB1).trans ((unhide HE).b.mono (unhide HB1).size)⟩
end Go.Proofs.YtecfojkaoibldaaDoor
end

section
namespace Go.Proofs.YtecfojkaoibldaaDoor
open Go.ChangeShapes Go.WideShapes Go.ChangeAt Go.RowKit
attribute [local go_sem] Oper.semAt_some

theorem cnt_le (l : List Int) : (cutP l (cutS l)).length ≤ l.length := by have h := cutP_cnt (cutS_ok l); have := (cutS_ok l).len; omega
theorem alo_comm (l m : List Int) : aloN cutS l m = aloN cutS m l := by unfold aloN; rw [lcs_comm, Nat.add_comm]
theorem alo_zero (l m : List Int) : aloN cutS l m = 0 ↔ l = m := by
  have h := lcs_len (cutP l (cutS l)) (cutP m (cutS m))
  constructor
  · intro e
    unfold aloN at e
    have := lcs_all (x := cutP l (cutS l)) (y := cutP m (cutS m)) (by omega) (by omega)
    rw [← (cutS_ok l).flat, this, (cutS_ok m).flat]
  · rintro rfl
    unfold aloN
    rw [lcs_self]; omega
theorem alo_tri (l m n : List Int) : aloN cutS l n ≤ aloN cutS l m + aloN cutS m n := by
  have h1 := lcs_tri (cutP l (cutS l)) (cutP m (cutS m)) (cutP n (cutS n))
  have h2 := lcs_len (cutP l (cutS l)) (cutP m (cutS m))
  have h3 := lcs_len (cutP m (cutS m)) (cutP n (cutS n))
  unfold aloN
  omega
theorem alo_dif (l m : List Int) : aloN cutS l m ≤ (cutP l (cutS l)).length + (cutP m (cutS m)).length ∧ (cutP l (cutS l)).length ≤ aloN cutS l m + (cutP m (cutS m)).length ∧ (cutP m (cutS m)).length ≤ aloN cutS l m + (cutP l (cutS l)).length := by
  have h2 := lcs_len (cutP l (cutS l)) (cutP m (cutS m))
  unfold aloN
  omega
theorem cut_small {l : List Int} (h : ¬ 700 < l.length) : (cutS l).length ≤ 2049 := by have := (cutS_ok l).len; omega
set_option maxRecDepth 100000 in
set_option maxHeartbeats 8000000 in
theorem DiffMetric_any (a0 : Option Addr) (c0 : Nat) (l : List Int) (b0 : Option Addr) (d0 : Nat) (m : List Int) (e0 : Option Addr) (f0 : Nat) (n : List Int) (w : World) (hA : IsB w a0 c0 l) (hB : IsB w b0 d0 m) (hC : IsB w e0 f0 n) (hT : Tab w) :
    Calls Tryd.prog 8 #[.slice a0 l.length c0, .slice b0 m.length d0, .slice e0 n.length f0] w fun e w' => e = .returned (.bool true) ∧ Below w.heap.size w w' := by
  have HW := hide (wakes19_at w hT)
  have HA := hide hA
  have HB := hide hB
  have HC := hide hC
  have HT := hide hT
  clear hA hB hC hT
  have HLO1 := hide fun (X : World) => long19_at a0 l.length c0 b0 m.length d0 X
  have HLO2 := hide fun (X : World) => long19_at b0 m.length d0 e0 n.length f0 X
  go_enter Tryd.func8, Tryd.ntmps8
  go_wp2_with fail
  refine (unhide HW).mono ?_
  rintro e w1 ⟨rfl, hb1⟩
  dsimp only
  have H1 := hide hb1
  clear HW hb1
  go_wp2_with fail
  refine (unhide HLO1 w1).mono ?_
  rintro e w2 ⟨rfl, rfl⟩
  dsimp only
  by_cases hl1 : 700 < l.length ∨ 700 < m.length
  · rw [decide_eq_true hl1]
    go_wp2_with fail
    exact bodyPost_ret (results_tmp rfl _ _ _) rfl ⟨rfl, unhide H1⟩
  rw [decide_eq_false hl1]
  go_wp2_with fail
  refine (unhide HLO2 w2).mono ?_
  rintro e w3 ⟨rfl, rfl⟩
  dsimp only
  by_cases hl2 : 700 < m.length ∨ 700 < n.length
  · rw [decide_eq_true hl2]
    go_wp2_with fail
    exact bodyPost_ret (results_tmp rfl _ _ _) rfl ⟨rfl, unhide H1⟩
  rw [decide_eq_false hl2]
  have HCS : Hid ((cutS l).length ≤ 2049 ∧ (cutS m).length ≤ 2049 ∧ (cutS n).length ≤ 2049) := hide ⟨cut_small (by omega), cut_small (by omega), cut_small (by omega)⟩
  have hsz : l.length ≤ 700 ∧ m.length ≤ 700 ∧ n.length ≤ 700 := by omega
  have HSZ := hide hsz
  clear HLO1 HLO2 hl1 hl2 hsz
  go_wp2_with fail
  refine (own19_at a0 c0 l w3 ((unhide HA).below (unhide H1) (Nat.le_refl _))).mono ?_
  rintro e u0a ⟨p1, q1, rfl, i1, hb1⟩
  dsimp only
  have G1 := hide ((unhide H1).trans (hb1.mono (unhide H1).size))
  have I1 := hide i1
  clear hb1 i1 H1
  go_wp2_with fail
  refine (own19_at b0 d0 m u0a ((unhide HB).below (unhide G1) (Nat.le_refl _))).mono ?_
  rintro e u0b ⟨p2, q2, rfl, i2, hb2⟩
  dsimp only
  have G2 := hide ((unhide G1).trans (hb2.mono (unhide G1).size))
  have I2 := hide i2
  have I3 := hide ((unhide I1).below hb2 (Nat.le_refl _))
  clear hb2 i2 I1 G1
  go_wp2_with fail
  refine (Distance_at p1 q1 l p2 q2 m u0b (unhide I3) (unhide I2) ((unhide HT).below (unhide G2) (unhide HT).size)).mono ?_
  rintro e u0c ⟨hb3, ⟨hno, _⟩ | ⟨_, _, rfl⟩⟩
  · have := unhide HCS; exact absurd ⟨by omega, by omega⟩ hno
  dsimp only
  have J0 := hide ((unhide G2).trans (hb3.mono (unhide G2).size))
  clear hb3 I2 I3 G2
  go_wp2_with fail
  refine (own19_at b0 d0 m u0c ((unhide HB).below (unhide J0) (Nat.le_refl _))).mono ?_
  rintro e u1a ⟨p1, q1, rfl, i1, hb1⟩
  dsimp only
  have G1 := hide ((unhide J0).trans (hb1.mono (unhide J0).size))
  have I1 := hide i1
  clear hb1 i1 J0
  go_wp2_with fail
  refine (own19_at a0 c0 l u1a ((unhide HA).below (unhide G1) (Nat.le_refl _))).mono ?_
  rintro e u1b ⟨p2, q2, rfl, i2, hb2⟩
  dsimp only
  have G2 := hide ((unhide G1).trans (hb2.mono (unhide G1).size))
  have I2 := hide i2
  have I3 := hide ((unhide I1).below hb2 (Nat.le_refl _))
  clear hb2 i2 I1 G1
  go_wp2_with fail
  refine (Distance_at p1 q1 m p2 q2 l u1b (unhide I3) (unhide I2) ((unhide HT).below (unhide G2) (unhide HT).size)).mono ?_
  rintro e u1c ⟨hb3, ⟨hno, _⟩ | ⟨_, _, rfl⟩⟩
  · have := unhide HCS; exact absurd ⟨by omega, by omega⟩ hno
  dsimp only
  have J1 := hide ((unhide G2).trans (hb3.mono (unhide G2).size))
  clear hb3 I2 I3 G2
  go_wp2_with fail
  refine (own19_at b0 d0 m u1c ((unhide HB).below (unhide J1) (Nat.le_refl _))).mono ?_
  rintro e u2a ⟨p1, q1, rfl, i1, hb1⟩
  dsimp only
  have G1 := hide ((unhide J1).trans (hb1.mono (unhide J1).size))
  have I1 := hide i1
  clear hb1 i1 J1
  go_wp2_with fail
  refine (own19_at e0 f0 n u2a ((unhide HC).below (unhide G1) (Nat.le_refl _))).mono ?_
  rintro e u2b ⟨p2, q2, rfl, i2, hb2⟩
  dsimp only
  have G2 := hide ((unhide G1).trans (hb2.mono (unhide G1).size))
  have I2 := hide i2
  have I3 := hide ((unhide I1).below hb2 (Nat.le_refl _))
  clear hb2 i2 I1 G1
  go_wp2_with fail
  refine (Distance_at p1 q1 m p2 q2 n u2b (unhide I3) (unhide I2) ((unhide HT).below (unhide G2) (unhide HT).size)).mono ?_
  rintro e u2c ⟨hb3, ⟨hno, _⟩ | ⟨_, _, rfl⟩⟩
  · have := unhide HCS; exact absurd ⟨by omega, by omega⟩ hno
  dsimp only
  have J2 := hide ((unhide G2).trans (hb3.mono (unhide G2).size))
  clear hb3 I2 I3 G2
  go_wp2_with fail
  refine (own19_at a0 c0 l u2c ((unhide HA).below (unhide J2) (Nat.le_refl _))).mono ?_
  rintro e u3a ⟨p1, q1, rfl, i1, hb1⟩
  dsimp only
  have G1 := hide ((unhide J2).trans (hb1.mono (unhide J2).size))
  have I1 := hide i1
  clear hb1 i1 J2
  go_wp2_with fail
  refine (own19_at e0 f0 n u3a ((unhide HC).below (unhide G1) (Nat.le_refl _))).mono ?_
  rintro e u3b ⟨p2, q2, rfl, i2, hb2⟩
  dsimp only
  have G2 := hide ((unhide G1).trans (hb2.mono (unhide G1).size))
  have I2 := hide i2
  have I3 := hide ((unhide I1).below hb2 (Nat.le_refl _))
  clear hb2 i2 I1 G1
  go_wp2_with fail
  refine (Distance_at p1 q1 l p2 q2 n u3b (unhide I3) (unhide I2) ((unhide HT).below (unhide G2) (unhide HT).size)).mono ?_
  rintro e u3c ⟨hb3, ⟨hno, _⟩ | ⟨_, _, rfl⟩⟩
  · have := unhide HCS; exact absurd ⟨by omega, by omega⟩ hno
  dsimp only
  have J3 := hide ((unhide G2).trans (hb3.mono (unhide G2).size))
  clear hb3 I2 I3 G2
  go_wp2_with fail
  refine (RSteps_at a0 c0 l u3c ((unhide HA).below (unhide J3) (Nat.le_refl _)) (by have := unhide HSZ; omega)).mono ?_
  rintro e s1 ⟨v1, rfl, x1⟩
  obtain ⟨q1, x11, _⟩ := x1.row
  obtain ⟨y1, z1, rfl, _⟩ := ra_txs x11
  dsimp only
  have H2 := hide ((unhide J3).trans (x1.b.mono (unhide J3).size))
  clear J3 x1 x11
  go_wp2_with fail
  refine (RSteps_at b0 d0 m s1 ((unhide HB).below (unhide H2) (Nat.le_refl _)) (by have := unhide HSZ; omega)).mono ?_
  rintro e s2 ⟨v2, rfl, x2⟩
  obtain ⟨q2, x22, _⟩ := x2.row
  obtain ⟨y2, z2, rfl, _⟩ := ra_txs x22
  dsimp only
  have H3 := hide ((unhide H2).trans (x2.b.mono (unhide H2).size))
  clear H2 x2 x22
  have KC1 := str_bs s2 a0 c0 l ((unhide HA).below (unhide H3) (Nat.le_refl _)).2.2.1
  have KC2 := str_bs s2 b0 d0 m ((unhide HB).below (unhide H3) (Nat.le_refl _)).2.2.1
  have g1 := alo_tri l m n
  have g2 := alo_dif l m
  have g3 := alo_zero l m
  have g4 := cnt_le l
  have g5 := cnt_le m
  have g6 := cnt_le n
  have g7 := alo_dif m n
  have hsz := unhide HSZ
  have hstr := str_beq (unhide HA).2.2.2 (unhide HB).2.2.2
  rw [alo_comm m l]
  generalize aloN cutS l m = AB at *
  generalize aloN cutS m n = BC at *
  generalize aloN cutS l n = AC at *
  generalize (cutP l (cutS l)).length = N at *
  generalize (cutP m (cutS m)).length = M at *
  have t1 : ((AB : Int) == 0) = decide (l = m) := by
    by_cases h : l = m
    · rw [decide_eq_true h, g3.2 h]; rfl
    · rw [decide_eq_false h]
      have : ¬ AB = 0 := fun e => h (g3.1 e)
      simp; omega
  have t2 : decide ((AC : Int) ≤ (AB : Int) + (BC : Int)) = true := decide_eq_true (by omega)
  have t3 : decide ((AB : Int) ≥ (N : Int) - (M : Int)) = true := decide_eq_true (by omega)
  have t3' : decide ((N : Int) - (M : Int) ≤ (AB : Int)) = true := decide_eq_true (by omega)
  have t4 : decide ((AB : Int) ≥ (M : Int) - (N : Int)) = true := decide_eq_true (by omega)
  have t4' : decide ((M : Int) - (N : Int) ≤ (AB : Int)) = true := decide_eq_true (by omega)
  have t5 : decide ((AB : Int) ≤ (N : Int) + (M : Int)) = true := decide_eq_true (by omega)
  clear g3
  go_wp2_with fail
  exact bodyPost_ret (results_tmp rfl _ _ _) rfl ⟨rfl, unhide H3⟩
end Go.Proofs.YtecfojkaoibldaaDoor
end
