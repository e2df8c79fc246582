/- Layer 14: Both (written by wip/tools/sft.py). · Layer 14, the document's Build (written by wip/tools/sgq.py). -/
import Derived.Test.YtkmbkoajbmlgaaaMg28
import Derived.Test.YtkmbkoajbmlgaaaMg26
import Derived.Test.YtkmbkoajbmlgaaaMg11

section
namespace Go.Proofs.Ytkmbkoajbmlgaaa
open Go.ChangeShapes Go.WideShapes Go.ChangeAt Go.RowKit
attribute [local go_sem] Oper.semAt_some

def boE (d e : List Dop) : Int := if ovE e d true = 0 then ovE d e false else ovE e d true
def boA (d e : List Dop) : List Dop := if boE d e = 0 then ovD e d true else []
def boB (d e : List Dop) : List Dop := if boE d e = 0 then ovD d e false else []
set_option maxRecDepth 100000 in
set_option maxHeartbeats 4000000 in
theorem Both_at (a : Option Addr) (c : Nat) (d : List Dop) (a' : Option Addr) (c' : Nat) (e : List Dop) (w : World) (h : IsO w a d ∧ d.length ≤ c) (h' : IsO w a' e ∧ e.length ≤ c') (ht : ∀ o ∈ d, o.t.length ≤ 140737488355328) (ht' : ∀ o ∈ e, o.t.length ≤ 140737488355328) (hl : d.length ≤ 4611686018427387904) (hl' : e.length ≤ 4611686018427387904) :
    Calls Try.prog 34 #[.slice a d.length c, .slice a' e.length c'] w fun y w' => ∃ a2 c2 a3 c3, y = .returned (.tuple #[.slice a2 (boA d e).length c2, .slice a3 (boB d e).length c3, .int .i64 (boE d e)]) ∧ (IsO w' a2 (boA d e) ∧ (boA d e).length ≤ c2) ∧ (IsO w' a3 (boB d e) ∧ (boB d e).length ≤ c3) ∧ Below w.heap.size w w' := by
  have H1 := hide (OverO_at a' c' e a c d true w h' h ht' hl' hl)
  have H2 := hide fun (X : World) (hX : Below w.heap.size w X) => OverO_at a c d a' c' e false X ⟨h.1.below hX (Nat.le_refl _), h.2⟩ ⟨h'.1.below hX (Nat.le_refl _), h'.2⟩ ht hl hl'
  obtain ⟨E1, hE1⟩ : ∃ E1, E1 = ovE e d true := ⟨_, rfl⟩
  obtain ⟨E2, hE2⟩ : ∃ E2, E2 = ovE d e false := ⟨_, rfl⟩
  obtain ⟨L1, hL1⟩ : ∃ L1, L1 = ovD e d true := ⟨_, rfl⟩
  obtain ⟨L2, hL2⟩ : ∃ L2, L2 = ovD d e false := ⟨_, rfl⟩
  have hbE : boE d e = if E1 = 0 then E2 else E1 := by unfold boE; rw [hE1, hE2]
  have hbA : boA d e = if (if E1 = 0 then E2 else E1) = 0 then L1 else [] := by unfold boA; rw [hbE, hL1]
  have hbB : boB d e = if (if E1 = 0 then E2 else E1) = 0 then L2 else [] := by unfold boB; rw [hbE, hL2]
  rw [hbE, hbA, hbB]
  rw [← hE1, ← hL1] at H1
  rw [← hE2, ← hL2] at H2
  clear h h' ht ht' hl hl' hE1 hE2 hL1 hL2 hbE hbA hbB
  by_cases e1 : E1 = 0
  · subst e1
    simp only [if_true]
    by_cases e2 : E2 = 0
    · subst e2
      simp only [if_true]
      go_enter Try.func34, Try.ntmps34
      go_wp2_with fail
      refine (unhide H1).mono ?_
      rintro y w1 ⟨a2, c2, rfl, i2, x1⟩
      dsimp only
      have HX1 := hide x1
      have HI := hide i2
      have HC := hide (unhide H2 w1 x1)
      clear H1 H2 i2 x1
      go_wp2_with fail
      refine (unhide HC).mono ?_
      rintro y w2 ⟨a3, c3, rfl, i3, x2⟩
      dsimp only
      have HI2 := hide (And.intro (And.intro ((unhide HI).1.below x2 (Nat.le_refl _)) (unhide HI).2) i3)
      have HX2 := hide ((unhide HX1).trans (x2.mono (unhide HX1).size))
      clear HC HI HX1 i3 x2
      go_wp2_with fail
      refine bodyPost_ret (results_tmp3 rfl _ _) rfl ⟨_, _, _, _, rfl, (unhide HI2).1, (unhide HI2).2, unhide HX2⟩
    · have t2 : (E2 != 0) = true := by simpa using e2
      have t2' : (E2 == 0) = false := by simpa using e2
      rw [if_neg e2, if_neg e2]
      go_enter Try.func34, Try.ntmps34
      go_wp2_with fail
      refine (unhide H1).mono ?_
      rintro y w1 ⟨a2, c2, rfl, _, x1⟩
      dsimp only
      have HX1 := hide x1
      have HC := hide (unhide H2 w1 x1)
      clear H1 H2 x1
      go_wp2_with fail
      refine (unhide HC).mono ?_
      rintro y w2 ⟨a3, c3, rfl, _, x2⟩
      dsimp only
      have HX2 := hide ((unhide HX1).trans (x2.mono (unhide HX1).size))
      clear HC HX1 x2 e2
      go_wp2_with fail
      refine bodyPost_ret (results_tmp3 rfl _ _) rfl ⟨none, 0, none, 0, rfl, ⟨.inl rfl, by simp⟩, ⟨.inl rfl, by simp⟩, unhide HX2⟩
  · have t1 : (E1 != 0) = true := by simpa using e1
    have t1' : (E1 == 0) = false := by simpa using e1
    rw [if_neg e1, if_neg e1, if_neg e1]
    go_enter Try.func34, Try.ntmps34
    go_wp2_with fail
    refine (unhide H1).mono ?_
    rintro y w1 ⟨a2, c2, rfl, _, x1⟩
    dsimp only
    have HX1 := hide x1
    clear H1 H2 x1 e1
    go_wp2_with fail
    refine bodyPost_ret (results_tmp3 rfl _ _) rfl ⟨none, 0, none, 0, rfl, ⟨.inl rfl, by simp⟩, ⟨.inl rfl, by simp⟩, unhide HX1⟩
/-- what Over answers where all is well -/
structure OvK (d e : List Dop) (f : Bool) : Prop where
  v1 : valB d = true
  v2 : valB e = true
  q : frD d = frD e
  l : toA (ovA f (dA d) (dA e)) ≤ 268435456
  c : ovD d e f = canA (ovA f (dA d) (dA e))
  v : valB (ovD d e f) = true
  fr : frD (ovD d e f) = toD d
  tt : toD (ovD d e f) = toA (ovA f (dA d) (dA e))
  a : dA (ovD d e f) = nfA (ovA f (dA d) (dA e))
theorem ov_ok {d e : List Dop} {f : Bool} (h : ovE d e f = 0) : OvK d e f := by
  have hd : ovD d e f = canA (ovA f (dA d) (dA e)) := by unfold ovD; rw [if_pos h]
  unfold ovE at h
  split at h
  · rename_i hv
    have hv1 : valB d = true := by revert hv; cases valB d <;> simp
    have hv2 : valB e = true := by revert hv; cases valB e <;> simp
    split at h
    · rename_i hf
      split at h
      · cases h
      · rename_i hl
        have q : frA (dA d) = frA (dA e) := by rw [(frA_dA (valB_k hv1)).1, (frA_dA (valB_k hv2)).1, hf]
        have hfr := ov_fr f _ (dA d) (dA e) (Nat.le_refl _) q
        rw [(frA_dA (valB_k hv1)).2] at hfr
        have h1 := (valB_nn hv1).2.2
        obtain ⟨c1, c2, c3, c4⟩ := canA_val (u := ovA f (dA d) (dA e)) (by omega) (by omega)
        exact ⟨hv1, hv2, hf, by omega, hd, by rw [hd]; exact c1, by rw [hd, c2]; exact hfr, by rw [hd]; exact c3, by rw [hd]; exact c4⟩
    · cases h
  · cases h
theorem bo_ok {d e : List Dop} (h : boE d e = 0) : OvK e d true ∧ OvK d e false ∧ boA d e = ovD e d true ∧ boB d e = ovD d e false := by
  have hA : boA d e = ovD e d true := by unfold boA; rw [if_pos h]
  have hB : boB d e = ovD d e false := by unfold boB; rw [if_pos h]
  unfold boE at h
  split at h
  · rename_i h1
    exact ⟨ov_ok h1, ov_ok h, hA, hB⟩
  · rename_i h1
    exact absurd h h1
/-- both orders make one delta -/
theorem bo_meet {d e : List Dop} (h : boE d e = 0) : TwoD d (boB d e) ∧ TwoD e (boA d e) ∧ cmD d (boB d e) = cmD e (boA d e) := by
  obtain ⟨o1, o2, eA, eB⟩ := bo_ok h
  rw [eA, eB]
  have t1 := two_ok o2.v1 o2.v o2.fr.symm
  have t2 := two_ok o1.v1 o1.v o1.fr.symm
  refine ⟨t1, t2, ?_⟩
  rw [t1.d, t2.d]
  refine canA_congr ?_
  rw [o2.a, o1.a, cmp_nf_right, cmp_nf_right]
  exact ov_meet _ _ _ (Nat.le_refl _) (by rw [(frA_dA (valB_k o2.v1)).1, (frA_dA (valB_k o2.v2)).1, o2.q])

end Go.Proofs.Ytkmbkoajbmlgaaa
end

section
namespace Go.Proofs.Ytkmbkoajbmlgaaa
open Go.ChangeShapes Go.WideShapes Go.ChangeAt Go.RowKit
attribute [local go_sem] Oper.semAt_some

/-- one more operation, of a []Op -/
theorem push_opB (W : World) (B n : Nat) (v : Value) (xs : List Value) (a b : Int) (s : ByteArray) (ty : TypeId) (h : W.ownsRow B 34 3 v n xs) (hn : n ≤ 1099511627776) (hB : B ≤ W.heap.size) :
    ∃ g k W', (Builtin.append_ #[23, 23] ty #[v, .slice (some ⟨W.heap.size, 0, none⟩) 1 1]).run Try.prog (W.alloc (.cells #[.int .i64 a, .int .i64 b, .string s] 34)) = .ok (.slice (some ⟨g, 0, none⟩) (n + 1) k) W' ∧
      W'.ownsRow B 34 3 (.slice (some ⟨g, 0, none⟩) (n + 1) k) (n + 1) (xs ++ [.int .i64 a, .int .i64 b, .string s]) ∧ W.grownBy W' v.ownBlock ∧ Below B W W' := by
  obtain ⟨i, hi, hz, hs, hby⟩ := info_op
  have hr := World.ownsRow.alloc h (.cells #[.int .i64 a, .int .i64 b, .string s] 34)
  obtain ⟨c0, c1, c2⟩ := three_nwD W (.int .i64 a) (.int .i64 b) (.string s) (t := 34)
  obtain ⟨g, k, W', hrun, ho, hg, _, _⟩ := run_append_lies (P := Try.prog) (W.alloc (.cells #[.int .i64 a, .int .i64 b, .string s] 34)) 23 ty B 34 i (.agg #[.int .i64 0, .int .i64 0, .string ⟨#[]⟩]) 3 32 Try.underlying23 hi hz hs hby rfl (by decide)
    v n xs hr ⟨W.heap.size, 0, none⟩ 1 1 [.int .i64 a, .int .i64 b, .string s] rfl
    (fun j u hj => by
      match j with
      | 0 => simp at hj; subst hj; rw [Addr.add_lit]; exact c0
      | 1 => simp at hj; subst hj; rw [Addr.add_lit]; exact c1
      | 2 => simp at hj; subst hj; rw [Addr.add_lit]; exact c2
      | j + 3 => simp at hj)
    (fun u hu => by simp at hu; rcases hu with rfl | rfl | rfl <;> rfl) (by decide) (by unfold maxLen; omega) (by omega) (by simp; omega) _ rfl
  have ha := World.grownBy_alloc W (.cells #[.int .i64 a, .int .i64 b, .string s] 34) none
  refine ⟨g, k, W', hrun, ho, ⟨hg.os.trans ha.os, hg.tape.trans ha.tape, hg.output.trans ha.output, Nat.le_trans ha.size hg.size, fun k hk hne => ?_⟩, ((Below.refl B W).alloc hB _).grown hg (by simp; omega) (fun k hk => (hr.lt k hk).1)⟩
  exact (hg.block k (Nat.lt_of_lt_of_le hk ha.size) hne).trans (ha.block k hk (by simp))

/-- a Build: the list that is written, the text and the bytes that wait -/
structure IsBr (X : World) (B g : Nat) (L : List Dop) (tx : List Int) (dr : Nat) : Prop where
  c : ∃ vo, Cls X g 108 #[vo, .string (strOfNums tx), .int .i64 (dr : Int)] ∧ X.ownsRow B 34 3 vo L.length (opsV L)
  z : B ≤ g
theorem IsBr.on {X Y : World} {B N g : Nat} {L : List Dop} {tx : List Int} {dr : Nat} (h : IsBr X B g L tx dr) (hb : Below N X Y) (hN : X.heap.size ≤ N) : IsBr Y B g L tx dr := by
  obtain ⟨vo, h1, h2⟩ := h.c
  exact ⟨⟨vo, h1.below hb (Nat.lt_of_lt_of_le h1.lt hN), rowD_below h2 hb hN⟩, h.z⟩
theorem IsBr.drew {X : World} {B g : Nat} {L : List Dop} {tx : List Int} {dr : Nat} (h : IsBr X B g L tx dr) : IsBr X.drew B g L tx dr := h.on ((Below.refl X.heap.size X).drew) (Nat.le_refl _)
theorem br_row {X : World} {B g s n : Nat} {cs : Array Value} {v : Value} {xs : List Value} (h : Cls X g 108 cs) (hr : X.ownsRow B 34 s v n xs) (i : Nat) (u : Value) : (X.setCell ⟨g, i, none⟩ u).ownsRow B 34 s v n xs := rowD_on hr fun G hG => by
  obtain ⟨_, cur, hc⟩ := rowD_block hr hG
  exact Below.heap_setCell X ⟨g, i, none⟩ u G (typeD_ne hc h (by decide))
theorem IsBr.text {X : World} {B g : Nat} {L : List Dop} {tx : List Int} {dr : Nat} (h : IsBr X B g L tx dr) (t : List Int) : IsBr (X.setCell ⟨g, 1, none⟩ (.string (strOfNums t))) B g L t dr := by
  obtain ⟨vo, h1, h2⟩ := h.c
  exact ⟨⟨vo, h1.set 1 _, br_row h1 h2 _ _⟩, h.z⟩
theorem IsBr.gone {X : World} {B g : Nat} {L : List Dop} {tx : List Int} {dr : Nat} (h : IsBr X B g L tx dr) (n : Nat) : IsBr (X.setCell ⟨g, 2, none⟩ (.int .i64 (n : Int))) B g L tx n := by
  obtain ⟨vo, h1, h2⟩ := h.c
  exact ⟨⟨vo, h1.set 2 _, br_row h1 h2 _ _⟩, h.z⟩
/-- an operation is written behind the others -/
theorem br_push {X : World} {B g : Nat} {L : List Dop} {tx : List Int} {dr : Nat} (hz : B ≤ g) {vo : Value} (h1 : Cls X g 108 #[vo, .string (strOfNums tx), .int .i64 (dr : Int)]) (h2 : X.ownsRow B 34 3 vo L.length (opsV L)) (hn : L.length ≤ 1099511627776) (hB : B ≤ X.heap.size) (k n : Int) (s : ByteArray) (x : Dop) (hx : opL x = [.int .i64 k, .int .i64 n, .string s]) :
    ∃ g2 m2 k2 W2, (Builtin.append_ #[23, 23] 23 #[vo, .slice (some ⟨X.heap.size, 0, none⟩) 1 1]).run Try.prog (X.alloc (.cells #[.int .i64 k, .int .i64 n, .string s] 34)) = .ok (.slice (some ⟨g2, 0, none⟩) m2 k2) W2 ∧
      Cls (X.alloc (.cells #[.int .i64 k, .int .i64 n, .string s] 34)) g 108 #[vo, .string (strOfNums tx), .int .i64 (dr : Int)] ∧ Cls W2 g 108 #[vo, .string (strOfNums tx), .int .i64 (dr : Int)] ∧ IsBr (W2.setCell ⟨g, 0, none⟩ (.slice (some ⟨g2, 0, none⟩) m2 k2)) B g (L ++ [x]) tx dr ∧ Below B X (W2.setCell ⟨g, 0, none⟩ (.slice (some ⟨g2, 0, none⟩) m2 k2)) := by
  obtain ⟨g2, k2, W2, r2, o2, gr2, b2⟩ := push_opB X B L.length vo (opsV L) k n s 23 h2 hn hB
  rw [← hx] at o2
  have hs : W2.heap[g]? = X.heap[g]? := gr2.block g h1.lt fun e => by
    obtain ⟨_, cur, hc⟩ := rowD_block h2 e.symm
    exact typeD_ne hc h1 (by decide) rfl
  have h1' := h1.same hs
  refine ⟨g2, _, k2, W2, r2, h1.alloc _, h1', ⟨⟨_, h1'.set 0 _, ?_⟩, hz⟩, b2.setCell (p := ⟨g, 0, none⟩) hz _⟩
  have := br_row h1' o2 0 (.slice (some ⟨g2, 0, none⟩) (L.length + 1) k2)
  simpa [opsV_app, opsV_one] using this
theorem br_cells {X : World} {g : Nat} {a b c : Value} (h : Cls X g 108 #[a, b, c]) : X.cell? ⟨g, 0, none⟩ = some a ∧ X.cell? ⟨g, 1, none⟩ = some b ∧ X.cell? ⟨g, 2, none⟩ = some c := ⟨h.cell 0, h.cell 1, h.cell 2⟩
set_option maxRecDepth 100000 in
set_option maxHeartbeats 1000000 in
theorem buDrop_at (B g : Nat) (L : List Dop) (tx : List Int) (dr n : Nat) (X : World) (h : IsBr X B g L tx dr) (hn : dr + n ≤ 4611686018427387904) :
    Calls Try.prog 81 #[.pointer (some ⟨g, 0, none⟩), .int .i64 (n : Int)] X fun y X' => y = .returned (.tuple #[]) ∧ IsBr X' B g L tx (dr + n) ∧ Below B X X' := by
  obtain ⟨vo, h1, h2⟩ := h.c
  obtain ⟨c0, c1, c2⟩ := br_cells h1
  have f2 := h1.frozen 2
  have hw : wrap64 ((dr : Int) + (n : Int)) = ((dr + n : Nat) : Int) := by rw [wrapD _ (by omega) (by omega)]; omega
  have HR := hide (h.gone (dr + n))
  have HB := hide ((Below.refl B X).setCell (p := ⟨g, 2, none⟩) h.z (.int .i64 ((dr + n : Nat) : Int)))
  clear h h1 h2 c0 c1 hn
  go_enter Try.func81, Try.ntmps81
  go_wp2_with fail
  exact bodyPost_end (v := .tuple #[]) (results_none Try.results81 _ _ _) rfl ⟨rfl, unhide HR, unhide HB⟩
set_option maxRecDepth 100000 in
set_option maxHeartbeats 1000000 in
theorem buPut_at (B g : Nat) (L : List Dop) (tx : List Int) (dr : Nat) (t : List Int) (X : World) (h : IsBr X B g L tx dr) (hn : tx.length + t.length ≤ 4611686018427387904) :
    Calls Try.prog 79 #[.pointer (some ⟨g, 0, none⟩), .string (strOfNums t)] X fun y X' => y = .returned (.tuple #[]) ∧ IsBr X' B g L (tx ++ t) dr ∧ Below B X X' := by
  obtain ⟨vo, h1, h2⟩ := h.c
  obtain ⟨c0, c1, c2⟩ := br_cells h1
  have f1 := h1.frozen 1
  have hsa := str_appD tx t
  have hz : ¬ 9223372036854775807 < (strOfNums tx).size + (strOfNums t).size := by rw [strOfNums_size, strOfNums_size]; omega
  have HR := hide (h.text (tx ++ t))
  have HB := hide ((Below.refl B X).setCell (p := ⟨g, 1, none⟩) h.z (.string (strOfNums (tx ++ t))))
  clear h h1 h2 c0 c2 hn
  generalize strOfNums (tx ++ t) = sq at *
  generalize strOfNums tx = s1 at *
  generalize strOfNums t = s2 at *
  go_enter Try.func79, Try.ntmps79
  go_wp2_with fail
  exact bodyPost_end (v := .tuple #[]) (results_none Try.results79 _ _ _) rfl ⟨rfl, unhide HR, unhide HB⟩
set_option maxRecDepth 100000 in
set_option maxHeartbeats 4000000 in
theorem buFlush_at (B g : Nat) (L : List Dop) (tx : List Int) (dr : Nat) (X : World) (h : IsBr X B g L tx dr) (hn : L.length ≤ 1099511627770) (hB : B ≤ X.heap.size) (hd : dr ≤ 4611686018427387904) :
    Calls Try.prog 93 #[.pointer (some ⟨g, 0, none⟩)] X fun y X' => y = .returned (.tuple #[]) ∧ IsBr X' B g (L ++ pO tx ++ dO dr) [] 0 ∧ Below B X X' := by
  have HI := hide h
  have HB := hide hB
  obtain ⟨vo, h1, h2⟩ := h.c
  obtain ⟨c0, c1, c2⟩ := br_cells h1
  have hem := str_empD tx
  have HZ := hide h.z
  have H1 := hide h1
  have H2 := hide h2
  clear h hB h1 h2 c0 c2
  go_enter Try.func93, Try.ntmps93
  go_upto_if 6 with fail
  go_cut [0] (fun v wz => v = .pointer (some ⟨g, 0, none⟩) ∧ Hid (IsBr wz B g (L ++ pO tx) tx dr) ∧ Hid (Below B X wz))
  case first =>
    by_cases ht0 : tx = []
    · have t3 : tx.isEmpty = true := by rw [ht0]; rfl
      have HR : Hid (IsBr X B g (L ++ pO tx) tx dr) := hide (by
        have hp : pO tx = [] := by rw [ht0]; rfl
        rw [hp, List.append_nil]
        exact unhide HI)
      clear ht0 HI H1 H2 hem
      generalize strOfNums tx = st at *
      simp only [t3, Bool.not_true]
      go_wp2_with fail
      go_meet
      case rel => exact ⟨rfl, HR, hide (Below.refl _ _)⟩
    · have t3 : tx.isEmpty = false := by cases tx with | nil => exact absurd rfl ht0 | cons a r => rfl
      have hpO : pO tx = [⟨2, 0, tx⟩] := by unfold pO; rw [if_neg ht0]
      obtain ⟨g2, m2, k2, W2, r2, dA, dB, hI2, b2⟩ := br_push (X := X.drew) (unhide HZ) ((unhide H1).same rfl) (rowD_drew (unhide H2)) (by omega) (unhide HB) 2 0 (strOfNums tx) ⟨2, 0, tx⟩ rfl
      rw [← hpO] at hI2
      have R2 := hide r2
      have HR := hide hI2
      have HBB := hide (((Below.refl B X).drew).trans b2)
      have HS0 : Hid (X.drew.cell? ⟨g, 0, none⟩ = some vo ∧ X.drew.cell? ⟨g, 1, none⟩ = some (.string (strOfNums tx))) := hide ⟨(br_cells (unhide H1)).1, (br_cells (unhide H1)).2.1⟩
      have HSA := hide (And.intro (br_cells dA).1 (br_cells dA).2.1)
      have HS2 := hide (And.intro (br_cells dB).1 (br_cells dB).2.1)
      have e0 := (br_cells dB).1
      have f0 := dB.frozen 0
      clear ht0 HI H1 H2 r2 dA dB hI2 b2 hpO hem
      generalize strOfNums tx = st at *
      simp only [t3, Bool.not_false]
      go_upto_region 1 with fail
      refine regionL (S := fun w' => w'.cell? ⟨g, 0, none⟩ = some vo ∧ w'.cell? ⟨g, 1, none⟩ = some (.string st)) (fun i => i == 14) (by kernel_rfl) ?_
      refine anyL_take (i := 0) (v := ?vca0) rfl (by kernel_rfl) (by kernel_rfl) (by kernel_rfl) (by kernel_rfl) (fun _ _ _ h => h) (Or.inl ⟨by rfl, ?hca0⟩) (unhide HS0) ?_
      case hca0 => (intro w hSw; (try dsimp only at hSw); go_simp) <;> with_reducible rfl
      simp only [Act.put, List.getElem_toArray, List.getElem_cons_zero, List.setIfInBounds_toArray, List.set_cons_zero, List.set_cons_succ]
      refine anyL_take (i := 1) (v := ?vca1) rfl (by kernel_rfl) (by kernel_rfl) (by kernel_rfl) (by kernel_rfl) (fun _ _ _ h => h) (Or.inl ⟨by rfl, ?hca1⟩) (unhide HS0) ?_
      case hca1 => (intro w hSw; (try dsimp only at hSw); go_simp) <;> with_reducible rfl
      simp only [Act.put, List.getElem_toArray, List.getElem_cons_zero, List.getElem_cons_succ, List.setIfInBounds_toArray, List.set_cons_zero, List.set_cons_succ]
      refine anyL_take (i := 2) (v := ?vca2) rfl (by kernel_rfl) (by kernel_rfl) (by kernel_rfl) (by kernel_rfl) (fun _ _ _ h => h) (Or.inl ⟨by rfl, ?hca2⟩) (unhide HS0) ?_
      case hca2 => (intro w hSw; (try dsimp only at hSw); go_simp) <;> with_reducible rfl
      simp only [Act.put, List.getElem_toArray, List.getElem_cons_zero, List.getElem_cons_succ, List.setIfInBounds_toArray, List.set_cons_zero, List.set_cons_succ]
      refine anyL_take (i := 3) (v := ?vca3) rfl (by kernel_rfl) (by kernel_rfl) (by kernel_rfl) (by kernel_rfl) (fun _ _ _ h => h) (Or.inl ⟨by rfl, ?hca3⟩) (unhide HS0) ?_
      case hca3 => (intro w hSw; (try dsimp only at hSw); go_simp) <;> with_reducible rfl
      simp only [Act.put, List.getElem_toArray, List.getElem_cons_zero, List.getElem_cons_succ, List.setIfInBounds_toArray, List.set_cons_zero, List.set_cons_succ]
      refine anyL_take (i := 4) (v := ?vca4) rfl (by kernel_rfl) (by kernel_rfl) (by kernel_rfl) (by kernel_rfl) (fun _ _ _ h => h) (Or.inl ⟨by rfl, ?hca4⟩) (unhide HS0) ?_
      case hca4 => (intro w hSw; (try dsimp only at hSw); go_simp) <;> with_reducible rfl
      simp only [Act.put, List.getElem_toArray, List.getElem_cons_zero, List.getElem_cons_succ, List.setIfInBounds_toArray, List.set_cons_zero, List.set_cons_succ]
      refine anyL_take (i := 5) (v := ?vca5) rfl (by kernel_rfl) (by kernel_rfl) (by kernel_rfl) (by kernel_rfl) (fun _ _ _ h => h) (Or.inl ⟨by rfl, ?hca5⟩) (unhide HS0) ?_
      case hca5 => (intro w hSw; (try dsimp only at hSw); go_simp) <;> with_reducible rfl
      simp only [Act.put, List.getElem_toArray, List.getElem_cons_zero, List.getElem_cons_succ, List.setIfInBounds_toArray, List.set_cons_zero, List.set_cons_succ]
      refine anyL_take (i := 6) (v := ?vca6) rfl (by kernel_rfl) (by kernel_rfl) (by kernel_rfl) (by kernel_rfl) (fun _ _ _ h => h) (Or.inl ⟨by rfl, ?hca6⟩) (unhide HS0) ?_
      case hca6 => (intro w hSw; (try dsimp only at hSw); go_simp) <;> with_reducible rfl
      simp only [Act.put, List.getElem_toArray, List.getElem_cons_zero, List.getElem_cons_succ, List.setIfInBounds_toArray, List.set_cons_zero, List.set_cons_succ]
      refine anyL_take (i := 7) (v := ?vca7) rfl (by kernel_rfl) (by kernel_rfl) (by kernel_rfl) (by kernel_rfl) (fun _ _ _ h => h) (Or.inl ⟨by rfl, ?hca7⟩) (unhide HS0) ?_
      case hca7 => (intro w hSw; (try dsimp only at hSw); go_simp) <;> with_reducible rfl
      simp only [Act.put, List.getElem_toArray, List.getElem_cons_zero, List.getElem_cons_succ, List.setIfInBounds_toArray, List.set_cons_zero, List.set_cons_succ]
      refine anyL_take (i := 8) (v := ?vca8) rfl (by kernel_rfl) (by kernel_rfl) (by kernel_rfl) (by kernel_rfl) (fun _ _ _ h => h) (Or.inl ⟨by rfl, ?hca8⟩) (unhide HS0) ?_
      case hca8 => (intro w hSw; (try dsimp only at hSw); go_simp) <;> with_reducible rfl
      simp only [Act.put, List.getElem_toArray, List.getElem_cons_zero, List.getElem_cons_succ, List.setIfInBounds_toArray, List.set_cons_zero, List.set_cons_succ]
      refine anyL_take (i := 9) (v := ?vca9) rfl (by kernel_rfl) (by kernel_rfl) (by kernel_rfl) (by kernel_rfl) (fun _ _ _ h => h) (Or.inl ⟨by rfl, ?hca9⟩) (unhide HS0) ?_
      case hca9 => (intro w hSw; (try dsimp only at hSw); go_simp) <;> with_reducible rfl
      simp only [Act.put, List.getElem_toArray, List.getElem_cons_zero, List.getElem_cons_succ, List.setIfInBounds_toArray, List.set_cons_zero, List.set_cons_succ]
      refine anyL_ready (rs := [10]) (by kernel_rfl) (by simp) ?_
      refine AllL.cons rfl (fun K hK => ?_) AllL.nil
      go_simp
      refine unhide hK _ _ (fun _ => unhide HSA) ?_
      clear hK K
      refine anyL_ready (rs := [11]) (by kernel_rfl) (by simp) ?_
      refine AllL.cons rfl (fun K hK => ?_) AllL.nil
      refine step_append_in rfl _ _ 23 23 rfl _ _ rfl rfl _ _ (unhide R2) ?_
      go_simp
      clear R2
      refine unhide hK _ _ (fun _ => unhide HS2) ?_
      clear hK K
      refine anyL_take (i := 12) (v := ?vca10) rfl (by kernel_rfl) (by kernel_rfl) (by kernel_rfl) (by kernel_rfl) (fun _ _ _ h => h) (Or.inl ⟨by rfl, ?hca10⟩) (unhide HS2) ?_
      case hca10 => (intro w hSw; (try dsimp only at hSw); go_simp) <;> with_reducible rfl
      simp only [Act.put, List.getElem_toArray, List.getElem_cons_zero, List.getElem_cons_succ, List.setIfInBounds_toArray, List.set_cons_zero, List.set_cons_succ]
      refine anyL_take (i := 13) (v := ?vca11) rfl (by kernel_rfl) (by kernel_rfl) (by kernel_rfl) (by kernel_rfl) (fun _ _ _ h => h) (Or.inl ⟨by rfl, ?hca11⟩) (unhide HS2) ?_
      case hca11 => (intro w hSw; (try dsimp only at hSw); go_simp) <;> with_reducible rfl
      simp only [Act.put, List.getElem_toArray, List.getElem_cons_zero, List.getElem_cons_succ, List.setIfInBounds_toArray, List.set_cons_zero, List.set_cons_succ]
      refine anyL_ready (rs := [14]) (by kernel_rfl) (by simp) ?_
      refine AllL.cons rfl (fun K hK => ?_) AllL.nil
      go_simp
      refine unhide hK _ _ (fun h => by cases h) ?_
      clear hK K
      refine anyL_done (by kernel_rfl) ?_ _
      go_wp2_with fail
      go_meet
      case rel => exact ⟨rfl, HR, HBB⟩
  case rest =>
    obtain ⟨rfl, HI1, HB1⟩ := hcut
    clear HI H1 H2 hem c1
    obtain ⟨vo, h1, h2⟩ := (unhide HI1).c
    obtain ⟨c0, c1, c2⟩ := br_cells h1
    have H1 := hide h1
    have H2 := hide h2
    clear h1 h2 c0 c1
    go_upto_if 25 with fail
    go_cut [0] (fun v wz => v = .pointer (some ⟨g, 0, none⟩) ∧ Hid (IsBr wz B g (L ++ pO tx ++ dO dr) tx dr) ∧ Hid (Below B X wz))
    case first =>
      by_cases hd0 : dr = 0
      · have HR : Hid (IsBr wc B g (L ++ pO tx ++ dO dr) tx dr) := hide (by
          have hp : dO dr = [] := by rw [hd0]; rfl
          rw [hp, List.append_nil]
          exact unhide HI1)
        have t1 : decide ((dr : Int) > 0) = false := decide_eq_false (by omega)
        have t2 : decide (0 < (dr : Int)) = false := decide_eq_false (by omega)
        have t3 : decide (0 < dr) = false := decide_eq_false (by omega)
        clear hd0 HI1 H1 H2 c2
        simp only [t3]
        go_wp2_with fail
        go_meet
        case rel => exact ⟨rfl, HR, HB1⟩
      · have hdO : dO dr = [⟨3, (dr : Int), []⟩] := by unfold dO; rw [if_neg hd0]
        have hpl : (pO tx).length ≤ 1 := by unfold pO; split <;> simp
        obtain ⟨g2, m2, k2, W2, r2, dA, dB, hI2, b2⟩ := br_push (X := wc.drew) (unhide HZ) ((unhide H1).same rfl) (rowD_drew (unhide H2)) (by rw [List.length_append]; omega) (Nat.le_trans (unhide HB) (unhide HB1).size) 3 (dr : Int) ⟨#[]⟩ ⟨3, (dr : Int), []⟩ rfl
        rw [← hdO] at hI2
        have R2 := hide r2
        have HR := hide hI2
        have HBB := hide ((unhide HB1).trans (((Below.refl B wc).drew).trans b2))
        have HS0 : Hid (wc.drew.cell? ⟨g, 0, none⟩ = some vo ∧ wc.drew.cell? ⟨g, 2, none⟩ = some (.int .i64 (dr : Int))) := hide ⟨(br_cells (unhide H1)).1, (br_cells (unhide H1)).2.2⟩
        have HSA := hide (And.intro (br_cells dA).1 (br_cells dA).2.2)
        have HS2 := hide (And.intro (br_cells dB).1 (br_cells dB).2.2)
        have e0 := (br_cells dB).1
        have f0 := dB.frozen 0
        have t1 : decide ((dr : Int) > 0) = true := decide_eq_true (by omega)
        have t2 : decide (0 < (dr : Int)) = true := decide_eq_true (by omega)
        have t3 : decide (0 < dr) = true := decide_eq_true (by omega)
        clear hd0 HI1 H1 H2 r2 dA dB hI2 b2 hdO c2 hpl
        simp only [t3]
        go_upto_region 3 with fail
        refine regionL (S := fun w' => w'.cell? ⟨g, 0, none⟩ = some vo ∧ w'.cell? ⟨g, 2, none⟩ = some (.int .i64 (dr : Int))) (fun i => i == 14) (by kernel_rfl) ?_
        refine anyL_take (i := 0) (v := ?vcc12) rfl (by kernel_rfl) (by kernel_rfl) (by kernel_rfl) (by kernel_rfl) (fun _ _ _ h => h) (Or.inl ⟨by rfl, ?hcc12⟩) (unhide HS0) ?_
        case hcc12 => (intro w hSw; (try dsimp only at hSw); go_simp) <;> with_reducible rfl
        simp only [Act.put, List.getElem_toArray, List.getElem_cons_zero, List.setIfInBounds_toArray, List.set_cons_zero, List.set_cons_succ]
        refine anyL_take (i := 1) (v := ?vcc13) rfl (by kernel_rfl) (by kernel_rfl) (by kernel_rfl) (by kernel_rfl) (fun _ _ _ h => h) (Or.inl ⟨by rfl, ?hcc13⟩) (unhide HS0) ?_
        case hcc13 => (intro w hSw; (try dsimp only at hSw); go_simp) <;> with_reducible rfl
        simp only [Act.put, List.getElem_toArray, List.getElem_cons_zero, List.getElem_cons_succ, List.setIfInBounds_toArray, List.set_cons_zero, List.set_cons_succ]
        refine anyL_take (i := 2) (v := ?vcc14) rfl (by kernel_rfl) (by kernel_rfl) (by kernel_rfl) (by kernel_rfl) (fun _ _ _ h => h) (Or.inl ⟨by rfl, ?hcc14⟩) (unhide HS0) ?_
        case hcc14 => (intro w hSw; (try dsimp only at hSw); go_simp) <;> with_reducible rfl
        simp only [Act.put, List.getElem_toArray, List.getElem_cons_zero, List.getElem_cons_succ, List.setIfInBounds_toArray, List.set_cons_zero, List.set_cons_succ]
        refine anyL_take (i := 3) (v := ?vcc15) rfl (by kernel_rfl) (by kernel_rfl) (by kernel_rfl) (by kernel_rfl) (fun _ _ _ h => h) (Or.inl ⟨by rfl, ?hcc15⟩) (unhide HS0) ?_
        case hcc15 => (intro w hSw; (try dsimp only at hSw); go_simp) <;> with_reducible rfl
        simp only [Act.put, List.getElem_toArray, List.getElem_cons_zero, List.getElem_cons_succ, List.setIfInBounds_toArray, List.set_cons_zero, List.set_cons_succ]
        refine anyL_take (i := 4) (v := ?vcc16) rfl (by kernel_rfl) (by kernel_rfl) (by kernel_rfl) (by kernel_rfl) (fun _ _ _ h => h) (Or.inl ⟨by rfl, ?hcc16⟩) (unhide HS0) ?_
        case hcc16 => (intro w hSw; (try dsimp only at hSw); go_simp) <;> with_reducible rfl
        simp only [Act.put, List.getElem_toArray, List.getElem_cons_zero, List.getElem_cons_succ, List.setIfInBounds_toArray, List.set_cons_zero, List.set_cons_succ]
        refine anyL_take (i := 5) (v := ?vcc17) rfl (by kernel_rfl) (by kernel_rfl) (by kernel_rfl) (by kernel_rfl) (fun _ _ _ h => h) (Or.inl ⟨by rfl, ?hcc17⟩) (unhide HS0) ?_
        case hcc17 => (intro w hSw; (try dsimp only at hSw); go_simp) <;> with_reducible rfl
        simp only [Act.put, List.getElem_toArray, List.getElem_cons_zero, List.getElem_cons_succ, List.setIfInBounds_toArray, List.set_cons_zero, List.set_cons_succ]
        refine anyL_take (i := 6) (v := ?vcc18) rfl (by kernel_rfl) (by kernel_rfl) (by kernel_rfl) (by kernel_rfl) (fun _ _ _ h => h) (Or.inl ⟨by rfl, ?hcc18⟩) (unhide HS0) ?_
        case hcc18 => (intro w hSw; (try dsimp only at hSw); go_simp) <;> with_reducible rfl
        simp only [Act.put, List.getElem_toArray, List.getElem_cons_zero, List.getElem_cons_succ, List.setIfInBounds_toArray, List.set_cons_zero, List.set_cons_succ]
        refine anyL_take (i := 7) (v := ?vcc19) rfl (by kernel_rfl) (by kernel_rfl) (by kernel_rfl) (by kernel_rfl) (fun _ _ _ h => h) (Or.inl ⟨by rfl, ?hcc19⟩) (unhide HS0) ?_
        case hcc19 => (intro w hSw; (try dsimp only at hSw); go_simp) <;> with_reducible rfl
        simp only [Act.put, List.getElem_toArray, List.getElem_cons_zero, List.getElem_cons_succ, List.setIfInBounds_toArray, List.set_cons_zero, List.set_cons_succ]
        refine anyL_take (i := 8) (v := ?vcc20) rfl (by kernel_rfl) (by kernel_rfl) (by kernel_rfl) (by kernel_rfl) (fun _ _ _ h => h) (Or.inl ⟨by rfl, ?hcc20⟩) (unhide HS0) ?_
        case hcc20 => (intro w hSw; (try dsimp only at hSw); go_simp) <;> with_reducible rfl
        simp only [Act.put, List.getElem_toArray, List.getElem_cons_zero, List.getElem_cons_succ, List.setIfInBounds_toArray, List.set_cons_zero, List.set_cons_succ]
        refine anyL_take (i := 9) (v := ?vcc21) rfl (by kernel_rfl) (by kernel_rfl) (by kernel_rfl) (by kernel_rfl) (fun _ _ _ h => h) (Or.inl ⟨by rfl, ?hcc21⟩) (unhide HS0) ?_
        case hcc21 => (intro w hSw; (try dsimp only at hSw); go_simp) <;> with_reducible rfl
        simp only [Act.put, List.getElem_toArray, List.getElem_cons_zero, List.getElem_cons_succ, List.setIfInBounds_toArray, List.set_cons_zero, List.set_cons_succ]
        refine anyL_ready (rs := [10]) (by kernel_rfl) (by simp) ?_
        refine AllL.cons rfl (fun K hK => ?_) AllL.nil
        go_simp
        refine unhide hK _ _ (fun _ => unhide HSA) ?_
        clear hK K
        refine anyL_ready (rs := [11]) (by kernel_rfl) (by simp) ?_
        refine AllL.cons rfl (fun K hK => ?_) AllL.nil
        refine step_append_in rfl _ _ 23 23 rfl _ _ rfl rfl _ _ (unhide R2) ?_
        go_simp
        clear R2
        refine unhide hK _ _ (fun _ => unhide HS2) ?_
        clear hK K
        refine anyL_take (i := 12) (v := ?vcc22) rfl (by kernel_rfl) (by kernel_rfl) (by kernel_rfl) (by kernel_rfl) (fun _ _ _ h => h) (Or.inl ⟨by rfl, ?hcc22⟩) (unhide HS2) ?_
        case hcc22 => (intro w hSw; (try dsimp only at hSw); go_simp) <;> with_reducible rfl
        simp only [Act.put, List.getElem_toArray, List.getElem_cons_zero, List.getElem_cons_succ, List.setIfInBounds_toArray, List.set_cons_zero, List.set_cons_succ]
        refine anyL_take (i := 13) (v := ?vcc23) rfl (by kernel_rfl) (by kernel_rfl) (by kernel_rfl) (by kernel_rfl) (fun _ _ _ h => h) (Or.inl ⟨by rfl, ?hcc23⟩) (unhide HS2) ?_
        case hcc23 => (intro w hSw; (try dsimp only at hSw); go_simp) <;> with_reducible rfl
        simp only [Act.put, List.getElem_toArray, List.getElem_cons_zero, List.getElem_cons_succ, List.setIfInBounds_toArray, List.set_cons_zero, List.set_cons_succ]
        refine anyL_ready (rs := [14]) (by kernel_rfl) (by simp) ?_
        refine AllL.cons rfl (fun K hK => ?_) AllL.nil
        go_simp
        refine unhide hK _ _ (fun h => by cases h) ?_
        clear hK K
        refine anyL_done (by kernel_rfl) ?_ _
        go_wp2_with fail
        go_meet
        case rel => exact ⟨rfl, HR, HBB⟩
    case rest =>
      obtain ⟨rfl, HI2, HB2⟩ := hcut
      clear HI1 HB1 H1 H2 c2
      have HI3 := (unhide HI2).text []
      have HI4 := hide (HI3.gone 0)
      obtain ⟨vo2, k1, k2⟩ := (unhide HI2).c
      obtain ⟨vo3, k3, k4⟩ := HI3.c
      obtain ⟨c0, c1, c2⟩ := br_cells k1
      obtain ⟨d0, d1, d2⟩ := br_cells k3
      have f1 := k1.frozen 1
      have f2 := k3.frozen 2
      have HB4 := hide (((unhide HB2).setCell (p := ⟨g, 1, none⟩) (unhide HZ) (.string (strOfNums []))).setCell (p := ⟨g, 2, none⟩) (unhide HZ) (.int .i64 ((0 : Nat) : Int)))
      have e0 : strOfNums [] = (⟨#[]⟩ : ByteArray) := rfl
      rw [e0] at HI4 HB4 d0 d1 d2 f2
      simp only [Int.natCast_zero] at HI4 HB4
      clear HI2 HI3 HB2 k1 k2 k3 k4 e0 c0 d0 d1
      go_wp2_with fail
      exact bodyPost_end (v := .tuple #[]) (results_none Try.results93 _ _ _) rfl ⟨rfl, unhide HI4, unhide HB4⟩

end Go.Proofs.Ytkmbkoajbmlgaaa
end
