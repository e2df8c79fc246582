/- Layer 8: the document's Cut: slices of the bytes. · Layer 5: weld.Sum of the measures of pieces; a list of Welds of one's own (written by wip/tools/wsu.py). · Layer 8: for LeafCuts: pieces one by one; leaves and rows that stay while rows behind them grow (written by wip/tools/lct.py). -/
import Derived.Test.YtdklfodccdmmlaaDoorLbp
import Derived.Test.YtdklfodccdmmlaaDoorWmc
import Derived.Test.YtdklfodccdmmlaaDoorWjs
import Derived.Deep.AppendLies
import Derived.Deep.AppendSrc

section
namespace Go.Proofs.YtdklfodccdmmlaaDoor
open Go.ChangeShapes Go.WideShapes Go.ChangeAt Go.RowKit
attribute [local go_sem] Oper.semAt_some

set_option maxRecDepth 100000 in
theorem info_bs : ∃ i, Tryd.prog.info? 22 = some i ∧ i.zero = some (.slice none 0 0) ∧ i.size = 1 ∧ i.bytes = 24 := by
  refine ⟨_, rfl, ?_, ?_, ?_⟩ <;> rfl
theorem push_sl (W : World) (B n : Nat) (v : Value) (xs : List Value) (a : Option Addr) (k c : Nat) (ty : TypeId) (h : W.ownsRow B 22 1 v n xs) (hn : n ≤ 1099511627776) (hB : B ≤ W.heap.size) :
    ∃ g c' W', (Builtin.append_ #[31, 31] ty #[v, .slice (some ⟨W.heap.size, 0, none⟩) 1 1]).run Tryd.prog (W.alloc (.cells #[.slice a k c] 22)) = .ok (.slice (some ⟨g, 0, none⟩) (n + 1) c') W' ∧
      W'.ownsRow B 22 1 (.slice (some ⟨g, 0, none⟩) (n + 1) c') (n + 1) (xs ++ [.slice a k c]) ∧ Below B W W' := by
  obtain ⟨i, hi, hz, hs, hby⟩ := info_bs
  have hr := World.ownsRow.alloc h (.cells #[.slice a k c] 22)
  obtain ⟨g, c', W', hrun, ho, hg, _, _⟩ := run_append_lies (P := Tryd.prog) (W.alloc (.cells #[.slice a k c] 22)) 31 ty B 22 i (.slice none 0 0) 1 24 Tryd.underlying31 hi hz hs hby rfl (by decide)
    v n xs hr ⟨W.heap.size, 0, none⟩ 1 1 [.slice a k c] rfl
    (fun j u hj => by
      cases j with
      | zero => simp at hj; subst hj; rw [Addr.add_lit]; exact (World.cell?_alloc_mark W _ _ (0, 0) 0).trans rfl
      | succ j => simp at hj)
    (fun u hu => by simp at hu; subst hu; rfl) (by decide) (by unfold maxLen; omega) (by omega) (by simp; omega) _ rfl
  exact ⟨g, c', W', hrun, ho, ((Below.refl B W).alloc hB _).grown hg (by simp; omega) (fun k hk => (hr.lt k hk).1)⟩
/-- the borders of the leaves -/
def prA (l : List Int) (m : Nat) : Nat → Nat → List (Nat × Nat)
  | 0, _ => []
  | f + 1, b => if b < l.length then (b, bdr l b m) :: prA l m f (bdr l b m) else []
def prs (l : List Int) (m : Nat) : List (Nat × Nat) := prA l m l.length 0
def pcO (l : List Int) (p : Nat × Nat) : List Int := (l.take p.2).drop p.1
theorem prA_end {l : List Int} {m b : Nat} (h : ¬ b < l.length) : ∀ f, prA l m f b = []
  | 0 => rfl
  | f + 1 => by unfold prA; rw [if_neg h]
theorem prA_cons {l : List Int} {m b f : Nat} (h : b < l.length) (hf : l.length - b ≤ f) : ∃ g, f = g + 1 ∧ prA l m f b = (b, bdr l b m) :: prA l m g (bdr l b m) := by
  obtain ⟨g, rfl⟩ : ∃ g, f = g + 1 := ⟨f - 1, by omega⟩
  exact ⟨g, rfl, by show (if b < l.length then _ else _) = _; rw [if_pos h]⟩
theorem pcA_map (l : List Int) (m : Nat) : ∀ f b, pcA l m f b = (prA l m f b).map (pcO l)
  | 0, _ => rfl
  | f + 1, b => by
    unfold pcA prA
    split
    · rw [List.map_cons, pcA_map l m f]; rfl
    · rfl
theorem pcs_map (l : List Int) (m : Nat) : pcs l m = (prs l m).map (pcO l) := pcA_map l m _ _
theorem flr_isD {l : List Int} {p q : Nat} (h2 : q ≤ p) (h : inside l q = false) (h3 : ∀ j, q < j → j ≤ p → inside l j = true) : flr l p = q := by
  have h4 := flr_le l p
  have h5 := flr_edge l p
  rcases Nat.lt_trichotomy (flr l p) q with h6 | h6 | h6
  · cases h7 : inside l p with
    | false => rw [flr_eq h7] at h6; omega
    | true =>
      obtain ⟨h8, h9⟩ := flr_over h7
      have h10 := (inside_not l q).1 h (flr l p) h6
      omega
  · exact h6
  · have := h3 _ h6 h4
    rw [this] at h5; cases h5
def cutV (g off cap : Nat) (p : Nat × Nat) : Value := .slice (some ⟨g, off + p.1, none⟩) (p.2 - p.1) (cap - p.1)
structure CdI (w : World) (l : List Int) (m g off cap b : Nat) (v : Value) (X : World) : Prop where
  d : Below w.heap.size w X
  p : ∃ (pre : List (Nat × Nat)) (f : Nat), prs l m = pre ++ prA l m f b ∧ l.length - b ≤ f ∧ pre.length ≤ b ∧ X.ownsRow w.heap.size 22 1 v pre.length (pre.map (cutV g off cap))

set_option maxRecDepth 100000 in
theorem RCutE_at (a0 : Option Addr) (len cap : Nat) (m : Int) (w : World) (h : m < 1 ∨ 4096 < m) :
    Calls Tryd.prog 7 #[.slice a0 len cap, .int .i64 m] w fun y w' => y = .returned (.tuple #[.slice none 0 0, .int .i64 80]) ∧ w' = w := by
  go_enter Tryd.func7, Tryd.ntmps7
  by_cases h1 : m < 1
  · have t1 : decide (m < 1) = true := decide_eq_true h1
    clear h h1
    go_wp2_with fail
    refine bodyPost_ret (results_tmp2 rfl _ _ _) rfl ⟨rfl, rfl⟩
  · have t1 : decide (m < 1) = false := decide_eq_false h1
    have t2 : decide (m > 4096) = true := decide_eq_true (by omega)
    have t3 : decide (4096 < m) = true := decide_eq_true (by omega)
    clear h h1
    go_wp2_with fail
    refine bodyPost_ret (results_tmp2 rfl _ _ _) rfl ⟨rfl, rfl⟩
set_option maxRecDepth 100000 in
theorem RCutLong_at (a0 : Option Addr) (len cap m : Nat) (w : World) (h1 : 1 ≤ m) (h2 : m ≤ 4096) (hl : 268435456 < len) :
    Calls Tryd.prog 7 #[.slice a0 len cap, .int .i64 (m : Int)] w fun y w' => y = .returned (.tuple #[.slice none 0 0, .int .i64 5]) ∧ w' = w := by
  have t1 : decide ((m : Int) < 1) = false := decide_eq_false (by omega)
  have t2 : decide ((m : Int) > 4096) = false := decide_eq_false (by omega)
  have t3 : decide ((4096 : Int) < (m : Int)) = false := decide_eq_false (by omega)
  have t3' : decide (4096 < m) = false := decide_eq_false (by omega)
  have t1' : decide (m < 1) = false := decide_eq_false (by omega)
  have t4 : decide ((len : Int) > 268435456) = true := decide_eq_true (by omega)
  have t5 : decide ((268435456 : Int) < (len : Int)) = true := decide_eq_true (by omega)
  have t5' : decide (268435456 < len) = true := decide_eq_true (by omega)
  clear h1 h2 hl
  go_enter Tryd.func7, Tryd.ntmps7
  go_wp2_with fail
  refine bodyPost_ret (results_tmp2 rfl _ _ _) rfl ⟨rfl, rfl⟩

set_option maxRecDepth 100000 in
set_option maxHeartbeats 4000000 in
theorem RCut_at (a0 : Option Addr) (cap : Nat) (l : List Int) (m : Nat) (w : World) (hB : IsB w a0 cap l) (h1 : 1 ≤ m) (h2 : m ≤ 4096) (hl : l.length ≤ 268435456) :
    Calls Tryd.prog 7 #[.slice a0 l.length cap, .int .i64 (m : Int)] w fun y w' => ∃ v, y = .returned (.tuple #[v, .int .i64 0]) ∧ w'.ownsRow w.heap.size 22 1 v (prs l m).length ((prs l m).map (cutV (a0.getD ⟨0, 0, none⟩).block (a0.getD ⟨0, 0, none⟩).off cap)) ∧ Below w.heap.size w w' := by
  have t1 : decide ((m : Int) < 1) = false := decide_eq_false (by omega)
  have t2 : decide ((m : Int) > 4096) = false := decide_eq_false (by omega)
  have t3 : decide ((4096 : Int) < (m : Int)) = false := decide_eq_false (by omega)
  have t3' : decide (4096 < m) = false := decide_eq_false (by omega)
  have t1' : decide (m < 1) = false := decide_eq_false (by omega)
  have t4 : decide ((l.length : Int) > 268435456) = false := decide_eq_false (by omega)
  have t5 : decide ((268435456 : Int) < (l.length : Int)) = false := decide_eq_false (by omega)
  have t5' : decide (268435456 < l.length) = false := decide_eq_false (by omega)
  have HB := hide hB
  have hcap := hB.1
  have h3 := hB.2.2.1
  clear hB
  by_cases h0 : l.length = 0
  · -- no bytes
    have hp : prs l m = [] := by unfold prs; rw [h0]; rfl
    rw [hp]
    have u1 : decide ((l.length : Int) - 0 > (m : Int)) = false := decide_eq_false (by omega)
    have u2 : decide ((m : Int) < (l.length : Int)) = false := decide_eq_false (by omega)
    have u3 : decide ((0 : Int) < (l.length : Int)) = false := decide_eq_false (by omega)
    have u4 : decide (0 < l.length) = false := decide_eq_false (by omega)
    have u5 : decide (m < l.length) = false := decide_eq_false (by omega)
    have hw0 : wrap64 ((l.length : Int) - 0) = (l.length : Int) := by unfold wrap64; omega
    have hw1 : wrap64 (l.length : Int) = (l.length : Int) := by unfold wrap64; omega
    rw [h0] at *
    go_enter Tryd.func7, Tryd.ntmps7
    go_wp2_with fail
    clear t1 t2 t3 t3' t1' t4 t5 t5'
    go_loopw [6, 7, 8] (fun v s e wx => v = .slice none 0 0 ∧ s = .int .i64 0 ∧ (∃ z, e = z) ∧ wx = w) (fun _ _ _ _ => 0)
    case atStart => exact ⟨rfl, rfl, ⟨_, rfl⟩, rfl⟩
    case round =>
      obtain ⟨rfl, rfl, ⟨z, rfl⟩, rfl⟩ := hrel
      have u6 : decide ((m : Int) < 0) = false := decide_eq_false (by omega)
      go_wp2_with fail
      refine bodyPost_ret (results_tmp2 rfl _ _ _) rfl ⟨_, rfl, ⟨rfl, Or.inl ⟨rfl, rfl⟩⟩, Below.refl _ _⟩
  · obtain ⟨g, off, rfl, hL⟩ : ∃ g off, a0 = some ⟨g, off, none⟩ ∧ Lies w g off l := by
      rcases h3 with h | h
      · rw [h] at h0; simp at h0
      · exact h
    clear h3 hL
    show Calls _ _ _ _ fun y w' => ∃ v, y = .returned (.tuple #[v, .int .i64 0]) ∧ w'.ownsRow w.heap.size 22 1 v (prs l m).length ((prs l m).map (cutV g off cap)) ∧ Below w.heap.size w w'
    go_enter Tryd.func7, Tryd.ntmps7
    go_wp2_with fail
    clear t1 t2 t3 t3' t1' t4 t5 t5' h0
    go_loopw [6, 7, 8] (fun v s e wx => ∃ b : Nat, b ≤ l.length ∧ s = .int .i64 (b : Int) ∧ (∃ z, e = z) ∧ Hid (CdI w l m g off cap b v wx)) (fun _ s _ _ => l.length - (intOf s).toNat)
    case atStart => exact ⟨0, Nat.zero_le _, rfl, ⟨_, rfl⟩, hide ⟨Below.refl _ _, [], l.length, rfl, by omega, Nat.le_refl _, ⟨rfl, Or.inl ⟨rfl, rfl⟩⟩⟩⟩
    case round =>
      obtain ⟨b, hb, rfl, ⟨z, rfl⟩, HI⟩ := hrel
      have hws : wrap64 ((l.length : Int) - (b : Int)) = (l.length : Int) - (b : Int) := by unfold wrap64; omega
      by_cases hlt : m < l.length - b
      · have t1 : decide ((l.length : Int) - (b : Int) > (m : Int)) = true := decide_eq_true (by omega)
        have t1' : decide ((m : Int) < (l.length : Int) - (b : Int)) = true := decide_eq_true (by omega)
        have hwa : wrap64 ((b : Int) + (m : Int)) = ((b + m : Nat) : Int) := by unfold wrap64; omega
        have hbl : b < l.length := by omega
        have hle : b + m ≤ l.length := by omega
        have HX := hide (And.intro hlt hb)
        clear hlt hb
        go_wp2_with fail
        clear t1 t1' hwa
        go_loopw [8] (fun e wx => ∃ t : Nat, e = .int .i64 (t : Int) ∧ flr l (b + m) ≤ t ∧ t ≤ b + m ∧ (m < 4 → t = b + m) ∧ Hid (4 ≤ m → ∀ j, t < j → j ≤ b + m → inside l j = true) ∧ wx = wr) (fun e _ => (intOf e).toNat)
        case atStart => exact ⟨b + m, rfl, flr_le l _, Nat.le_refl _, fun _ => rfl, hide (fun _ j h1 h2 => by omega), rfl⟩
        case round =>
          obtain ⟨t, rfl, hf1, hf2, hf3, HJ, rfl⟩ := hrel
          have hfin : (bdr l b m = t → True) := fun _ => trivial
          clear hfin
          have hbd : bdr l b m = if m < 4 then b + m else flr l (b + m) := by unfold bdr; rw [if_neg (by have := (unhide HX).1; omega)]
          by_cases hm4 : 4 ≤ m
          · have u1 : decide ((m : Int) ≥ 4) = true := decide_eq_true (by omega)
            have u1' : decide ((4 : Int) ≤ (m : Int)) = true := decide_eq_true (by omega)
            have u1'' : decide (4 ≤ m) = true := decide_eq_true hm4
            cases hin : inside l t with
            | true =>
              have htf : flr l (b + m) ≠ t := fun e => by have := flr_edge l (b + m); rw [e, hin] at this; cases this
              have hIn := Inside_at (some ⟨g, off, none⟩) cap t l _ ((unhide HB).below (unhide HI).d (Nat.le_refl _)) (by omega)
              rw [hin] at hIn
              have hwt : wrap64 ((t : Int) - 1) = ((t - 1 : Nat) : Int) := by unfold wrap64; omega
              have HJ2 : Hid (4 ≤ m → ∀ j, t - 1 < j → j ≤ b + m → inside l j = true) := hide (fun h j h5 h6 => by
                rcases Nat.lt_or_ge t j with h7 | h7
                · exact unhide HJ h j h7 h6
                · obtain rfl : j = t := by omega
                  exact hin)
              have HF := hide (And.intro (show flr l (b + m) ≤ t - 1 by omega) (show t - 1 ≤ b + m by omega))
              have htp : 1 ≤ t := by omega
              have HTP := hide htp
              have HM := hide hm4
              clear hin htf HJ hbd hf1 hf2 hf3 hm4 htp
              go_wp2_with fail
              refine hIn.mono ?_
              rintro y w' ⟨rfl, hw'⟩
              rw [hw']
              clear hw' w' hIn
              go_wp2_with fail
              go_roundw
              case rel => exact ⟨t - 1, by rw [hwt], (unhide HF).1, (unhide HF).2, fun h => by have := unhide HM; omega, HJ2, by trivial⟩
              case measure => simp only [intOf]; rw [hwt]; have := unhide HTP; omega
            | false =>
              have htf : flr l (b + m) = t := flr_isD hf2 hin (unhide HJ hm4)
              rw [if_neg (by omega), htf] at hbd
              have hIn := Inside_at (some ⟨g, off, none⟩) cap t l _ ((unhide HB).below (unhide HI).d (Nat.le_refl _)) (by omega)
              rw [hin] at hIn
              obtain ⟨e1, e2⟩ := bdr_in hbl h1
              rw [hbd] at e1 e2
              obtain ⟨pre, f, p1, p2, p3, p4⟩ := (unhide HI).p
              obtain ⟨f', rfl, p5⟩ := prA_cons (m := m) hbl p2
              rw [p5, hbd] at p1
              obtain ⟨g5, c5, w5, r5, o5, x5⟩ := push_sl wr w.heap.size _ _ _ (some ⟨g, off + b, none⟩) (t - b) (cap - b) 31 p4 (by omega) (unhide HI).d.size
              have HI2 : Hid (CdI w l m g off cap t (.slice (some ⟨g5, 0, none⟩) (pre.length + 1) c5) w5) := hide ⟨(unhide HI).d.trans x5, pre ++ [(b, t)], f', by rw [p1]; simp, by omega, by simp; omega, by simpa [cutV] using o5⟩
              have R5 := hide r5
              have hcx : ¬ cap = b := by omega
              have htc : t ≤ cap := by omega
              have hbt : b ≤ t := by omega
              have HE := hide (And.intro e1 e2)
              clear hin htf HJ hbd hf1 hf2 hf3 p1 p2 p3 p4 p5 r5 o5 x5 HI e1 e2 hm4
              go_wp2_with fail
              refine hIn.mono ?_
              rintro y w' ⟨rfl, hw'⟩
              rw [hw']
              clear hw' w' hIn
              go_wp2_with (at_builtin; refine wpList_append_known rfl _ _ 31 31 rfl _ _ rfl rfl _ _ (unhide R5) ?_)
              go_roundw
              case rel => exact ⟨t, (unhide HE).2, rfl, ⟨_, rfl⟩, HI2⟩
              case measure => simp [intOf]; have := unhide HE; omega
          · have u1 : decide ((m : Int) ≥ 4) = false := decide_eq_false (by omega)
            have u1' : decide ((4 : Int) ≤ (m : Int)) = false := decide_eq_false (by omega)
            have u1'' : decide (4 ≤ m) = false := decide_eq_false hm4
            obtain rfl : t = b + m := hf3 (by omega)
            rw [if_pos (by omega)] at hbd
            obtain ⟨pre, f, p1, p2, p3, p4⟩ := (unhide HI).p
            obtain ⟨f', rfl, p5⟩ := prA_cons (m := m) hbl p2
            rw [p5, hbd] at p1
            have hsub : b + m - b = m := by omega
            obtain ⟨g5, c5, w5, r5, o5, x5⟩ := push_sl wr w.heap.size _ _ _ (some ⟨g, off + b, none⟩) (b + m - b) (cap - b) 31 p4 (by omega) (unhide HI).d.size
            have HI2 : Hid (CdI w l m g off cap (b + m) (.slice (some ⟨g5, 0, none⟩) (pre.length + 1) c5) w5) := hide ⟨(unhide HI).d.trans x5, pre ++ [(b, b + m)], f', by rw [p1]; simp, by omega, by simp; omega, by simpa [cutV] using o5⟩
            have R5 := hide r5
            have R6 := hide r5
            rw [hsub] at R6
            have hcx : ¬ cap = b := by omega
            have htc : b + m ≤ cap := by omega
            have hbt : b ≤ b + m := by omega
            clear HJ hbd hf1 hf2 hf3 p1 p2 p3 p4 p5 r5 o5 x5 HI hm4
            go_wp2_with (first | (at_builtin; refine wpList_append_known rfl _ _ 31 31 rfl _ _ rfl rfl _ _ (unhide R5) ?_) | (at_builtin; refine wpList_append_known rfl _ _ 31 31 rfl _ _ rfl rfl _ _ (unhide R6) ?_))
            go_roundw
            case rel => exact ⟨b + m, hle, by go_num, ⟨_, rfl⟩, HI2⟩
            case measure => simp [intOf]; omega
      · have t1 : decide ((l.length : Int) - (b : Int) > (m : Int)) = false := decide_eq_false (by omega)
        have t1' : decide ((m : Int) < (l.length : Int) - (b : Int)) = false := decide_eq_false (by omega)
        have hbd : bdr l b m = l.length := by unfold bdr; rw [if_pos (by omega)]
        by_cases hbl : b < l.length
        · have t2 : decide ((b : Int) < (l.length : Int)) = true := decide_eq_true (by omega)
          obtain ⟨pre, f, p1, p2, p3, p4⟩ := (unhide HI).p
          obtain ⟨f', rfl, p5⟩ := prA_cons (m := m) hbl p2
          rw [p5, hbd, prA_end (by omega)] at p1
          obtain ⟨g5, c5, w5, r5, o5, x5⟩ := push_sl wr w.heap.size _ _ _ (some ⟨g, off + b, none⟩) (l.length - b) (cap - b) 31 p4 (by omega) (unhide HI).d.size
          have HO : Hid (w5.ownsRow w.heap.size 22 1 (.slice (some ⟨g5, 0, none⟩) (pre.length + 1) c5) (prs l m).length ((prs l m).map (cutV g off cap))) := hide (by rw [p1]; simpa [cutV] using o5)
          have HD := hide ((unhide HI).d.trans x5)
          have R5 := hide r5
          have hcx : ¬ cap = b := by omega
          clear hbd p1 p2 p3 p4 p5 r5 o5 x5 HI hlt
          go_wp2_with (at_builtin; refine wpList_append_known rfl _ _ 31 31 rfl _ _ rfl rfl _ _ (unhide R5) ?_)
          refine bodyPost_ret (results_tmp2 rfl _ _ _) rfl ⟨_, rfl, unhide HO, unhide HD⟩
        · have t2 : decide ((b : Int) < (l.length : Int)) = false := decide_eq_false (by omega)
          obtain ⟨pre, f, p1, p2, p3, p4⟩ := (unhide HI).p
          rw [prA_end hbl, List.append_nil] at p1
          have HO := hide p4
          rw [← p1] at HO
          have HD := hide (unhide HI).d
          clear hbd p1 p2 p3 p4 HI hlt
          go_wp2_with fail
          refine bodyPost_ret (results_tmp2 rfl _ _ _) rfl ⟨_, rfl, unhide HO, unhide HD⟩

end Go.Proofs.YtdklfodccdmmlaaDoor
end

section
namespace Go.Proofs.YtdklfodccdmmlaaDoor
open Go.ChangeShapes Go.WideShapes Go.ChangeAt Go.RowKit
attribute [local go_sem] Oper.semAt_some

/-- a measure's six cells -/
def weC (p : List Int) : List Value := [.int .i64 (szL p).b, .int .i64 (szL p).r, .int .i64 (szL p).u, .int .i64 (szL p).e, .string (strOfNums (p.take 3)), .string (strOfNums (tail3 p))]
def wsV (ps : List (List Int)) : List Value := ps.flatMap weC
theorem wsV_snoc (ps : List (List Int)) (p : List Int) : wsV (ps ++ [p]) = wsV ps ++ weC p := by simp [wsV]
theorem wsV_get : ∀ (ps : List (List Int)) (k j : Nat), k < ps.length → j < 6 → (wsV ps)[k * 6 + j]? = (weC (ps.getD k []))[j]?
  | [], k, _, hk, _ => absurd hk (by simp)
  | t :: ts, 0, j, _, hj => by
    rw [wsV, List.flatMap_cons, Nat.zero_mul, Nat.zero_add, List.getElem?_append_left (by simpa [weC] using hj)]; rfl
  | t :: ts, k + 1, j, hk, hj => by
    have ih := wsV_get ts k j (by simpa using hk) hj
    rw [wsV, List.flatMap_cons, List.getElem?_append_right (by simp [weC]; omega), show (k + 1) * 6 + j - (weC t).length = k * 6 + j by simp [weC]; omega]
    simpa [wsV] using ih
set_option maxRecDepth 100000 in
theorem info_we : ∃ i, Tryd.prog.info? 42 = some i ∧ i.zero = some (.agg #[.int .i64 0, .int .i64 0, .int .i64 0, .int .i64 0, .string ⟨#[]⟩, .string ⟨#[]⟩]) ∧ i.size = 6 ∧ i.bytes = 64 := by
  refine ⟨_, rfl, ?_, ?_, ?_⟩ <;> rfl
/-- a []Weld in memory -/
def WsAt (W : World) (a : Option Addr) (ps : List (List Int)) : Prop := ps = [] ∨ ∃ g, a = some ⟨g, 0, none⟩ ∧ g < W.heap.size ∧ ∀ k, k < ps.length → ∀ j, j < 6 → W.cell? ⟨g, k * 6 + j, none⟩ = (weC (ps.getD k []))[j]?
theorem WsAt.below {W W' : World} {B : Nat} {a : Option Addr} {ps : List (List Int)} (h : WsAt W a ps) (hb : Below B W W') (hB : W.heap.size ≤ B) : WsAt W' a ps := by
  rcases h with h | ⟨g, rfl, hg, hc⟩
  · exact Or.inl h
  · exact Or.inr ⟨g, rfl, Nat.lt_of_lt_of_le hg hb.size, fun k hk j hj => (hb.cell (p := ⟨g, k * 6 + j, none⟩) (by show g < B; omega)).trans (hc k hk j hj)⟩
theorem ws_row {X : World} {B n : Nat} {v : Value} {ps : List (List Int)} (h : X.ownsRow B 42 6 v n (wsV ps)) (hn : n = ps.length) : ∃ a c, v = .slice a ps.length c ∧ WsAt X a ps := by
  subst hn
  have hc := h
  rcases h.2 with ⟨rfl, h0⟩ | ⟨g, cap, cur, rfl, hB, hg, _⟩
  · exact ⟨none, 0, by rw [h0], Or.inl (List.length_eq_zero_iff.1 h0)⟩
  · refine ⟨_, cap, rfl, Or.inr ⟨g, rfl, (Array.getElem?_eq_some_iff.1 hg).1, fun k hk j hj => ?_⟩⟩
    have e := wsV_get ps k j hk hj
    have hlt : j < (weC (ps.getD k [])).length := by simpa [weC] using hj
    rw [List.getElem?_eq_getElem hlt] at e ⊢
    have := World.ownsRow.cells hc rfl (k * 6 + j) _ e
    rwa [Addr.add_lit, Nat.zero_add] at this
theorem WsAt.six {W : World} {a : Option Addr} {ps : List (List Int)} (h : WsAt W a ps) {k : Nat} (hk : k < ps.length) : ∃ g, a = some ⟨g, 0, none⟩ ∧ g < W.heap.size ∧
    W.cell? ⟨g, k * 6, none⟩ = some (.int .i64 (szL (ps.getD k [])).b) ∧ W.cell? ⟨g, k * 6 + 1, none⟩ = some (.int .i64 (szL (ps.getD k [])).r) ∧ W.cell? ⟨g, k * 6 + 2, none⟩ = some (.int .i64 (szL (ps.getD k [])).u) ∧
    W.cell? ⟨g, k * 6 + 3, none⟩ = some (.int .i64 (szL (ps.getD k [])).e) ∧ W.cell? ⟨g, k * 6 + 4, none⟩ = some (.string (strOfNums ((ps.getD k []).take 3))) ∧ W.cell? ⟨g, k * 6 + 5, none⟩ = some (.string (strOfNums (tail3 (ps.getD k [])))) := by
  rcases h with h | ⟨g, rfl, hg, hc⟩
  · rw [h] at hk; simp at hk
  · exact ⟨g, rfl, hg, hc k hk 0 (by decide), hc k hk 1 (by decide), hc k hk 2 (by decide), hc k hk 3 (by decide), hc k hk 4 (by decide), hc k hk 5 (by decide)⟩
/-- Sum's state behind k pieces -/
structure SuI (w : World) (gR gW : Nat) (ps : List (List Int)) (k : Nat) (X : World) : Prop where
  d : Below w.heap.size w X
  r : X.heap[gR]? = some (.cells #[.int .i64 0, .int .i64 0, .int .i64 0, .int .i64 0, .string ⟨#[]⟩, .string ⟨#[]⟩] 42 (0, 0))
  c : X.heap[gW]? = some (.cells (weC (ps.take k).flatten).toArray 42 (0, 0))
  z : gR < gW ∧ gW < X.heap.size
theorem fl_take {ps : List (List Int)} {k : Nat} (hk : k < ps.length) : (ps.take (k + 1)).flatten = (ps.take k).flatten ++ ps.getD k [] := by
  rw [List.take_add_one, List.getElem?_eq_getElem hk, Option.toList_some, List.flatten_append, List.getD_eq_getElem?_getD, List.getElem?_eq_getElem hk]
  simp
theorem fl_le (ps : List (List Int)) (k : Nat) : (ps.take k).flatten.length ≤ ps.flatten.length := by
  have : ps.flatten = (ps.take k).flatten ++ (ps.drop k).flatten := by rw [← List.flatten_append, List.take_append_drop]
  rw [this, List.length_append]
  omega
theorem set6_below {X : World} {g : Nat} (a b c d e f : Value) : Below g X ((((((X.setCell ⟨g, 0, none⟩ a).setCell ⟨g, 1, none⟩ b).setCell ⟨g, 2, none⟩ c).setCell ⟨g, 3, none⟩ d).setCell ⟨g, 4, none⟩ e).setCell ⟨g, 5, none⟩ f) :=
  ((((((Below.refl g X).setCell (p := ⟨g, 0, none⟩) (Nat.le_refl _) _).setCell (p := ⟨g, 1, none⟩) (Nat.le_refl _) _).setCell (p := ⟨g, 2, none⟩) (Nat.le_refl _) _).setCell (p := ⟨g, 3, none⟩) (Nat.le_refl _) _).setCell (p := ⟨g, 4, none⟩) (Nat.le_refl _) _).setCell (p := ⟨g, 5, none⟩) (Nat.le_refl _) _

end Go.Proofs.YtdklfodccdmmlaaDoor
end

section
namespace Go.Proofs.YtdklfodccdmmlaaDoor
open Go.ChangeShapes Go.WideShapes Go.ChangeAt Go.RowKit
attribute [local go_sem] Oper.semAt_some

/-- the pieces behind k of them -/
structure CtI (l : List Int) (m k b : Nat) : Prop where
  p : ∃ (pre : List (Nat × Nat)) (f : Nat), prs l m = pre ++ prA l m f b ∧ pre.length = k ∧ l.length - b ≤ f
  le : b ≤ l.length
theorem CtI.zero (l : List Int) (m : Nat) : CtI l m 0 0 := ⟨⟨[], l.length, rfl, rfl, by omega⟩, Nat.zero_le _⟩
theorem CtI.next {l : List Int} {m k b : Nat} (hm : 1 ≤ m) (h : CtI l m k b) (hk : k < (prs l m).length) : b < bdr l b m ∧ bdr l b m ≤ l.length ∧ (prs l m).getD k (0, 0) = (b, bdr l b m) ∧ CtI l m (k + 1) (bdr l b m) := by
  obtain ⟨pre, f, h1, h2, h3⟩ := h.p
  have hlt : b < l.length := by
    rcases Nat.lt_or_ge b l.length with h4 | h4
    · exact h4
    · rw [h1, prA_end (by omega)] at hk; simp at hk; omega
  obtain ⟨g, rfl, h5⟩ := prA_cons (m := m) hlt h3
  obtain ⟨e1, e2⟩ := bdr_in hlt hm
  rw [h5] at h1
  refine ⟨e1, e2, ?_, ⟨⟨pre ++ [(b, bdr l b m)], g, by rw [h1]; simp, by simp [h2], by omega⟩, e2⟩⟩
  rw [h1, ← h2]; simp
theorem CtI.end {l : List Int} {m b : Nat} (h : CtI l m (prs l m).length b) : b = l.length := by
  obtain ⟨pre, f, h1, h2, h3⟩ := h.p
  rcases Nat.lt_or_ge b l.length with h4 | h4
  · obtain ⟨g, rfl, h5⟩ := prA_cons (m := m) h4 h3
    rw [h5] at h1
    have := congrArg List.length h1
    simp at this
    omega
  · have := h.le; omega
theorem pcs_prs (l : List Int) (m : Nat) : (pcs l m).length = (prs l m).length := by rw [pcs_map]; simp
theorem pcs_at {l : List Int} {m k b : Nat} (hk : k < (prs l m).length) (h : (prs l m).getD k (0, 0) = (b, bdr l b m)) : (pcs l m).getD k [] = (l.take (bdr l b m)).drop b := by
  have h1 : (pcs l m).getD k [] = pcO l ((prs l m).getD k (0, 0)) := by rw [pcs_map]; simp [List.getD, List.getElem?_eq_getElem hk]
  rw [h1, h]; rfl
theorem pcA_flat {l : List Int} {m : Nat} (hm : 1 ≤ m) : ∀ f b, b ≤ l.length → l.length - b ≤ f → (pcA l m f b).flatten = l.drop b
  | 0, b, hb, hf => by rw [List.drop_of_length_le (by omega)]; rfl
  | f + 1, b, hb, hf => by
    rcases Nat.lt_or_ge b l.length with h4 | h4
    · have h5 : pcA l m (f + 1) b = (l.take (bdr l b m)).drop b :: pcA l m f (bdr l b m) := by show (if b < l.length then _ else _) = _; rw [if_pos h4]
      obtain ⟨e1, e2⟩ := bdr_in h4 hm
      rw [h5, List.flatten_cons, pcA_flat hm f (bdr l b m) e2 (by omega), List.drop_take]
      have : l.drop (bdr l b m) = (l.drop b).drop (bdr l b m - b) := by rw [List.drop_drop]; congr 1; omega
      rw [this, List.take_append_drop]
    · rw [pcA_end (by omega), List.drop_of_length_le (by omega)]; rfl
theorem pcs_flat {l : List Int} {m : Nat} (hm : 1 ≤ m) : (pcs l m).flatten = l := by
  unfold pcs
  rw [pcA_flat hm l.length 0 (Nat.zero_le _) (by omega)]; rfl
theorem pcs_in {l : List Int} {m : Nat} (hl : ∀ x ∈ l, 0 ≤ x ∧ x ≤ 255) : ∀ p ∈ pcs l m, ∀ x ∈ p, 0 ≤ x ∧ x ≤ 255 := fun p hp x hx => by
  rw [pcs_map] at hp
  obtain ⟨q, _, rfl⟩ := List.mem_map.1 hp
  exact hl x (List.mem_of_mem_take (List.mem_of_mem_drop hx))
/-- leaves, their list and the document's list: all below B -/
structure LoS (w : World) (B : Nat) (gs : List Nat) (ps : List (List Int)) (qs : List Value) (vC vW : Value) (X : World) : Prop where
  d : Below w.heap.size w X
  z : w.heap.size ≤ B ∧ B ≤ X.heap.size
  l : Lvs X w.heap.size gs ps
  ll : ∀ i, i < gs.length → gs.getD i 0 < B
  r : X.ownsRow w.heap.size 24 1 vC gs.length (ptrs gs)
  rl : ∀ g, vC.ownBlock = some g → g < B
  q : X.ownsRow w.heap.size 22 1 vW qs.length qs
  ql : ∀ g, vW.ownBlock = some g → g < B
theorem row_low {X Y : World} {B B0 s n : Nat} {t : TypeId} {v : Value} {xs : List Value} (h : X.ownsRow B0 t s v n xs) (hl : ∀ g, v.ownBlock = some g → g < B) (hb : Below B X Y) : Y.ownsRow B0 t s v n xs := by
  refine ⟨h.1, ?_⟩
  rcases h.2 with hn | ⟨g, cap, cur, e, h0, hg, rest⟩
  · exact .inl hn
  · exact .inr ⟨g, cap, cur, e, h0, (hb.block g (hl g (by rw [e]; rfl))).trans hg, rest⟩
theorem LoS.low {w : World} {B : Nat} {gs : List Nat} {ps : List (List Int)} {qs : List Value} {vC vW : Value} {X Y : World} (h : LoS w B gs ps qs vC vW X) (hb : Below B X Y) : LoS w B gs ps qs vC vW Y :=
  ⟨h.d.trans (hb.mono h.z.1), ⟨h.z.1, Nat.le_trans h.z.2 hb.size⟩, ⟨h.l.1, fun i hi => ⟨(h.l.2 i hi).1.below hb (h.ll i hi), (h.l.2 i hi).2⟩⟩, h.ll, row_low h.r h.rl hb, h.rl, row_low h.q h.ql hb, h.ql⟩
theorem LoS.on {w : World} {B : Nat} {gs : List Nat} {ps : List (List Int)} {qs : List Value} {vC vW : Value} {X Y : World} (h : LoS w B gs ps qs vC vW X) (hb : Below X.heap.size X Y) : LoS w B gs ps qs vC vW Y := h.low (hb.mono h.z.2)
/-- bytes are appended to a row of one's own: what else stays -/
theorem appG {W : World} {B : Nat} {v : Value} {l m : List Int} {a0 : Option Addr} {cap : Nat} (ty : TypeId) (h : Own W B v l) (hB : B ≤ W.heap.size) (hm : IsB W a0 cap m) (hb : l.length + m.length ≤ 268435456) :
    ∃ v' W', (Builtin.append_ #[22, 22] ty #[v, .slice a0 m.length cap]).run Tryd.prog W = .ok v' W' ∧ Own W' B v' (l ++ m) ∧ Below B W W' ∧ W.grownBy W' v.ownBlock ∧ (v'.ownBlock = v.ownBlock ∨ v'.ownBlock = some W.heap.size) := by
  obtain ⟨i, hi, hz, hs, hby⟩ := info_u8
  rcases Nat.eq_zero_or_pos m.length with h0 | h0
  · obtain rfl : m = [] := List.length_eq_zero_iff.1 h0
    have hsrc : Src Tryd.prog i.size 22 (.slice a0 0 cap) 0 [] W := by
      cases a0 with
      | none => exact Src.ofNil W Tryd.underlying22 cap
      | some x => exact Src.ofSlice W Tryd.underlying22 x 0 cap [] (by simp) (fun j u h => by simp at h) (fun u h => by cases h)
    refine ⟨v, W, ?_, by simpa using h, Below.refl _ _, ⟨rfl, rfl, rfl, Nat.le_refl _, fun _ _ _ => rfl⟩, Or.inl rfl⟩
    rcases h.2 with ⟨rfl, h0⟩ | ⟨g, c, cur, rfl, hB, hg, hle, hm, hsz, htk⟩
    · simp [Builtin.append_, run_underlying Tryd.underlying22, sizeOf, typeInfo, hi, hsrc.len, hsrc.cells]
    · have := run_append_room_src (P := Tryd.prog) W 22 22 ty 5 i Tryd.underlying22 hi g 0 l.length c (.slice a0 0 cap) 0 [] hsrc (by omega) (fun j hj => absurd hj (Nat.not_lt_zero _)) (fun j hj => absurd hj (Nat.not_lt_zero _))
      simpa [World.setCells] using this
  · rcases hm.2.2.1 with h' | ⟨g, off, rfl, hL⟩
    · rw [h'] at h0; cases h0
    · obtain ⟨g', k, W', hrun, ho, hg, hor, _⟩ := run_append_lies (P := Tryd.prog) W 22 ty B 5 i _ 1 1 Tryd.underlying22 hi hz hs hby rfl (by decide) v l.length (l.map (Value.int .u8)) h ⟨g, off, none⟩ m.length cap (m.map (Value.int .u8)) (by simp)
        (fun j u hj => by
          rw [Addr.add_lit]
          obtain ⟨x, hx, rfl⟩ : ∃ x, m[j]? = some x ∧ Value.int .u8 x = u := by simpa using hj
          have hjl : j < m.length := (List.getElem?_eq_some_iff.1 hx).1
          have := (hL j hjl).1
          simpa [List.getD, hx] using this) (fun u hu => by obtain ⟨x, _, rfl⟩ := List.mem_map.1 hu; rfl) h0 (by unfold maxLen; omega) (by omega) hB _ rfl
      refine ⟨_, W', hrun, by simpa [Own] using ho, (Below.refl B W).grown hg hB (fun k hk => (World.ownsRow.lt h k hk).1), hg, ?_⟩
      rcases hor with h1 | h1
      · exact Or.inl (by rw [h1]; rfl)
      · exact Or.inr (by rw [← h1]; rfl)
/-- what LeafCuts' loop makes: all bytes, all measures, in two rows -/
structure CtR (B : Nat) (L : List Int) (k : Nat) (ps : List (List Int)) (vA vM : Value) (X : World) : Prop where
  a : Own X B vA L
  m : X.ownsRow B 42 6 vM k (wsV ps)
  ne : ∀ g, vA.ownBlock = some g → vM.ownBlock ≠ some g
theorem row_on {X Y : World} {B s n : Nat} {t : TypeId} {v : Value} {xs : List Value} (h : X.ownsRow B t s v n xs) (hb : Below X.heap.size X Y) : Y.ownsRow B t s v n xs :=
  h.kept (row := none) ⟨hb.os, hb.tape, hb.output, hb.size, fun j hj _ => hb.block j hj⟩ (by cases hv : v.ownBlock <;> simp)
theorem CtR.on {B : Nat} {L : List Int} {k : Nat} {ps : List (List Int)} {vA vM : Value} {X Y : World} (h : CtR B L k ps vA vM X) (hb : Below X.heap.size X Y) : CtR B L k ps vA vM Y := ⟨row_on h.a hb, row_on h.m hb, h.ne⟩
theorem CtR.bytes {B : Nat} {L : List Int} {k : Nat} {ps : List (List Int)} {vA vM : Value} {X : World} (h : CtR B L k ps vA vM X) (hB : B ≤ X.heap.size) {p : List Int} {a0 : Option Addr} {cap : Nat} (hp : IsB X a0 cap p) (hn : L.length + p.length ≤ 268435456) :
    ∃ v' X', (Builtin.append_ #[22, 22] 22 #[vA, .slice a0 p.length cap]).run Tryd.prog X = .ok v' X' ∧ CtR B (L ++ p) k ps v' vM X' ∧ Below B X X' := by
  obtain ⟨v', X', h1, h2, h3, h4, h5⟩ := appG 22 h.a hB hp hn
  refine ⟨v', X', h1, ⟨h2, h.m.kept h4 ?_, fun g hg => ?_⟩, h3⟩
  · cases hv : vM.ownBlock with
    | none => exact Or.inl rfl
    | some g => exact Or.inr fun e => h.ne g e.symm hv
  · rcases h5 with h5 | h5
    · rw [h5] at hg; exact h.ne g hg
    · rw [h5] at hg
      cases hg
      intro hv
      have := (World.ownsRow.lt h.m _ hv).2
      omega
end Go.Proofs.YtdklfodccdmmlaaDoor
end
