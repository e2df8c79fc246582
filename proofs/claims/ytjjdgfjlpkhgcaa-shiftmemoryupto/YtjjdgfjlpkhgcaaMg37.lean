/- Layer 14, the document's Chain (written by wip/tools/sgx.py). · Layer 13: arguments: bytes and a list of operations that came in, of whatever size. -/
import Derived.Test.YtjjdgfjlpkhgcaaMg36
import Derived.Test.YtjjdgfjlpkhgcaaRows
import Derived.Test.YtjjdgfjlpkhgcaaMg20
import Derived.SizedLaws
import Derived.LaidLaws
import Derived.Deep.DeepHandedRow
import Derived.Deep.Slices
import Derived.Deep.SlicePairs
import Derived.OpenShut

section
namespace Go.Proofs.Ytjjdgfjlpkhgcaa
open Go.ChangeShapes Go.WideShapes Go.ChangeAt Go.RowKit
attribute [local go_sem] Oper.semAt_some

set_option maxRecDepth 100000 in
set_option maxHeartbeats 4000000 in
theorem RBothR14_at (a : Option Addr) (c : Nat) (d : List Dop) (a' : Option Addr) (c' : Nat) (e : List Dop) (w : World) (h : IsO w a d) (h' : IsO w a' e) (ht : txD d ≤ 1099511627776) (ht' : txD e ≤ 1099511627776) (hl : d.length ≤ 4611686018427387904) (hl' : e.length ≤ 4611686018427387904) :
    Calls Try.prog 71 #[.slice a d.length c, .slice a' e.length c'] w fun y w' => ∃ v2 v3, y = .returned (.tuple #[v2, v3, .int .i64 (boE d e)]) ∧ w'.ownsRow w.heap.size 34 3 v2 (boA d e).length (opsV (boA d e)) ∧ w'.ownsRow w.heap.size 34 3 v3 (boB d e).length (opsV (boB d e)) ∧ Below w.heap.size w w' := by
  have H1 := hide (ROver14_at a' c' e a c d true w h' h ht' ht hl' hl)
  have H2 := hide fun (X : World) (hX : Below w.heap.size w X) => ROver14_at a c d a' c' e false X (h.below hX (Nat.le_refl _)) (h'.below hX (Nat.le_refl _)) ht ht' hl hl'
  obtain ⟨E1, hE1⟩ : ∃ E1, E1 = ovE e d true := ⟨_, rfl⟩
  obtain ⟨E2, hE2⟩ : ∃ E2, E2 = ovE d e false := ⟨_, rfl⟩
  obtain ⟨L1, hL1⟩ : ∃ L1, L1 = ovD e d true := ⟨_, rfl⟩
  obtain ⟨L2, hL2⟩ : ∃ L2, L2 = ovD d e false := ⟨_, rfl⟩
  have hbE : boE d e = if E1 = 0 then E2 else E1 := by unfold boE; rw [hE1, hE2]
  have hbA : boA d e = if (if E1 = 0 then E2 else E1) = 0 then L1 else [] := by unfold boA; rw [hbE, hL1]
  have hbB : boB d e = if (if E1 = 0 then E2 else E1) = 0 then L2 else [] := by unfold boB; rw [hbE, hL2]
  rw [hbE, hbA, hbB]
  rw [← hE1, ← hL1] at H1
  rw [← hE2, ← hL2] at H2
  clear h h' ht ht' hl hl' hE1 hE2 hL1 hL2 hbE hbA hbB
  by_cases e1 : E1 = 0
  · subst e1
    simp only [if_true]
    by_cases e2 : E2 = 0
    · subst e2
      simp only [if_true]
      go_enter Try.func71, Try.ntmps71
      go_wp2_with fail
      refine (unhide H1).mono ?_
      rintro y w1 ⟨v2, rfl, i2, x1⟩
      dsimp only
      have HX1 := hide x1
      have HI := hide i2
      have HC := hide (unhide H2 w1 x1)
      clear H1 H2 i2 x1
      go_wp2_with fail
      refine (unhide HC).mono ?_
      rintro y w2 ⟨v3, rfl, i3, x2⟩
      dsimp only
      have HI2 := hide (And.intro (rowD_below (unhide HI) x2 (Nat.le_refl _)) (own_lower i3 (unhide HX1).size))
      have HX2 := hide ((unhide HX1).trans (x2.mono (unhide HX1).size))
      clear HC HI HX1 i3 x2
      go_wp2_with fail
      refine bodyPost_ret (results_tmp3 rfl _ _) rfl ⟨_, _, rfl, (unhide HI2).1, (unhide HI2).2, unhide HX2⟩
    · have t2 : (E2 != 0) = true := by simpa using e2
      have t2' : (E2 == 0) = false := by simpa using e2
      rw [if_neg e2, if_neg e2]
      go_enter Try.func71, Try.ntmps71
      go_wp2_with fail
      refine (unhide H1).mono ?_
      rintro y w1 ⟨v2, rfl, _, x1⟩
      dsimp only
      have HX1 := hide x1
      have HC := hide (unhide H2 w1 x1)
      clear H1 H2 x1
      go_wp2_with fail
      refine (unhide HC).mono ?_
      rintro y w2 ⟨v3, rfl, _, x2⟩
      dsimp only
      have HX2 := hide ((unhide HX1).trans (x2.mono (unhide HX1).size))
      clear HC HX1 x2 e2
      go_wp2_with fail
      refine bodyPost_ret (results_tmp3 rfl _ _) rfl ⟨.slice none 0 0, .slice none 0 0, rfl, row_nilD _ _, row_nilD _ _, unhide HX2⟩
  · have t1 : (E1 != 0) = true := by simpa using e1
    have t1' : (E1 == 0) = false := by simpa using e1
    rw [if_neg e1, if_neg e1, if_neg e1]
    go_enter Try.func71, Try.ntmps71
    go_wp2_with fail
    refine (unhide H1).mono ?_
    rintro y w1 ⟨v2, rfl, _, x1⟩
    dsimp only
    have HX1 := hide x1
    clear H1 H2 x1 e1
    go_wp2_with fail
    refine bodyPost_ret (results_tmp3 rfl _ _) rfl ⟨.slice none 0 0, .slice none 0 0, rfl, row_nilD _ _, row_nilD _ _, unhide HX1⟩
/-- every delta fits the next -/
def LnkD (ds : List Dl) : Prop := ∀ j, j + 1 < ds.length → toD (ds.getD j dlZ).d = frD (ds.getD (j + 1) dlZ).d
theorem lnk_tail {a : Dl} {r : List Dl} (h : LnkD (a :: r)) : LnkD r := fun j hj => by
  have := h (j + 1) (by simp; omega)
  simpa using this
theorem lk_lnk : ∀ {ds : List Dl} {n : Nat}, lkF n ds = true → LnkD ds
  | [], _, _ => fun j hj => by simp at hj
  | [a], _, _ => fun j hj => by simp at hj
  | a :: b :: r, n, h => fun j hj => by
    simp only [lkF, Bool.and_eq_true, decide_eq_true_eq] at h
    cases j with
    | zero => simpa using h.2.1.symm
    | succ j =>
      have := lk_lnk (ds := b :: r) (n := toD a.d) (by simp only [lkF, Bool.and_eq_true, decide_eq_true_eq]; exact h.2) j (by simpa using hj)
      simpa using this
theorem lnk_lk : ∀ {ds : List Dl} {n : Nat}, LnkD ds → (ds = [] ∨ frD (ds.getD 0 dlZ).d = n) → lkF n ds = true
  | [], _, _, _ => rfl
  | a :: r, n, h, h0 => by
    have h0' : frD a.d = n := by rcases h0 with h0 | h0; cases h0; simpa using h0
    simp only [lkF, Bool.and_eq_true, decide_eq_true_eq]
    refine ⟨h0', lnk_lk (lnk_tail h) ?_⟩
    cases r with
    | nil => exact .inl rfl
    | cons b r => right; have := h 0 (by simp); simpa using this.symm
theorem bo_fit {d e : List Dop} (hv : valB d = true) (hv' : valB e = true) (hf : frD d ≠ frD e) : boE d e = 131 := by
  have hf' : ¬ frD e = frD d := fun h => hf h.symm
  have h1 : ovE e d true = 131 := by unfold ovE; rw [hv, hv', if_neg hf']; rfl
  unfold boE
  rw [h1, if_neg (by decide)]
theorem cn_doc {ds : List Dl} {e : List Dop} (h1 : ds.all (fun x => valB x.d) = true) (h2 : valB e = true) (h3 : LnkD ds) : cnQ ds e = chL (ds.map (·.d)) e := by
  unfold cnQ lkE
  rw [if_pos h2, if_pos h1]
  by_cases hk : lkF (frD e) ds = true
  · rw [if_pos hk, if_pos rfl]
  · rw [if_neg hk, if_neg (by decide)]
    cases ds with
    | nil => exact absurd rfl hk
    | cons a r =>
      have hne : frD a.d ≠ frD e := fun hf => hk (lnk_lk h3 (.inr (by simpa using hf)))
      have hv : valB a.d = true := by simp only [List.all_cons, Bool.and_eq_true] at h1; exact h1.1
      show _ = chL (a.d :: r.map (·.d)) e
      simp only [chL]
      rw [bo_fit hv h2 hne, if_neg (by decide)]
theorem cn_130 {ds : List Dl} {e : List Dop} (h : ds.all (fun x => valB x.d) = false ∨ valB e = false) : cnQ ds e = (([], []), 130) := by
  have : lkE ds e = 130 := by
    unfold lkE
    rcases h with h | h
    · rw [h]; cases valB e <;> rfl
    · rw [h]; rfl
  unfold cnQ
  rw [this]; rfl
theorem cn_131 {ds : List Dl} {e : List Dop} (h1 : ds.all (fun x => valB x.d) = true) (h2 : valB e = true) (h3 : ¬ LnkD ds) : cnQ ds e = (([], []), 131) := by
  have : lkE ds e = 131 := by
    unfold lkE
    rw [if_pos h2, if_pos h1, if_neg (fun hk => h3 (lk_lnk hk))]
  unfold cnQ
  rw [this]; rfl
theorem all_dl {ds : List Dl} {k : Nat} (hk : k < ds.length) : (ds.take (k + 1)).all (fun x => valB x.d) = ((ds.take k).all (fun x => valB x.d) && valB (ds.getD k dlZ).d) := by
  rw [List.take_add_one, List.getElem?_eq_getElem hk, Option.toList_some, List.all_append]
  simp [List.getD, List.getElem?_eq_getElem hk]
theorem all_dn {ds : List Dl} {k : Nat} (hk : k < ds.length) (h : valB (ds.getD k dlZ).d = false) : ds.all (fun x => valB x.d) = false := by
  apply Bool.eq_false_iff.2
  intro hh
  have h9 : valB (ds.getD k dlZ).d = true := List.all_eq_true.1 hh _ (mem_dl hk)
  rw [h] at h9; cases h9
theorem val_dl {ds : List Dl} (h : ds.all (fun x => valB x.d) = true) {k : Nat} (hk : k < ds.length) : valB (ds.getD k dlZ).d = true := List.all_eq_true.1 h _ (mem_dl hk)
theorem ch_sz {L : List (List Dop)} {k n : Nat} (h1 : L.length = k) (h2 : k < n) (h3 : n ≤ 1048576) : (L.length + 1) * 24 ≤ 140737488355328 := by rw [h1]; omega
theorem pre_nil (q : (List Dop × List (List Dop)) × Int) : q = preL [] q := by
  unfold preL
  split
  · rename_i h; rw [List.nil_append, ← h]
  · rfl
theorem pre_err {L : List (List Dop)} {E : Int} (h : ¬ E = 0) : preL L (([], []), E) = (([], []), E) := by unfold preL; rw [if_neg h]
theorem own_isD {W : World} {B : Nat} {a : Option Addr} {c : Nat} {d : List Dop} (h : W.ownsRow B 34 3 (.slice a d.length c) d.length (opsV d)) : IsO W a d := by
  obtain ⟨a', c', e, h1, _⟩ := own_isO h
  cases e
  exact h1
theorem nat_ne {a b : Nat} (h : ¬ a = b) : ((a : Int) != (b : Int)) = true := by simp; omega
theorem two_k {k n : Nat} (hn : n ≤ 1099511627776) (hk : k ≤ n) : wrap64 ((k : Int) + 1) = ((k + 1 : Nat) : Int) := by rw [wrapD _ (by omega) (by omega)]; omega
theorem dlt1 {k n : Nat} (h : k + 1 < n) : decide (((k + 1 : Nat) : Int) < (n : Int)) = true ∧ decide ((k : Int) + 1 < (n : Int)) = true ∧ (k : Int) + 1 < (n : Int) ∧ ((k + 1 : Nat) : Int) < (n : Int) ∧ (k : Int) < (n : Int) ∧ (0 : Int) ≤ (k : Int) ∧ (0 : Int) ≤ (k : Int) + 1 := ⟨decide_eq_true (by omega), decide_eq_true (by omega), by omega, by omega, by omega, by omega, by omega⟩
theorem dnl1 {k n : Nat} (h : ¬ k + 1 < n) : decide (((k + 1 : Nat) : Int) < (n : Int)) = false ∧ decide ((k : Int) + 1 < (n : Int)) = false ∧ ¬ (k : Int) + 1 < (n : Int) ∧ ¬ ((k + 1 : Nat) : Int) < (n : Int) := ⟨decide_eq_false (by omega), decide_eq_false (by omega), by omega, by omega⟩
def RChP (ds : List Dl) (e : List Dop) (w : World) (y : Ending) (w' : World) : Prop := ∃ a1 c1 v8, y = .returned (.tuple #[.slice a1 (cnQ ds e).1.1.length c1, v8, .int .i64 (cnQ ds e).2]) ∧ IsO w' a1 (cnQ ds e).1.1 ∧ ChM w w' (.slice none 0 0) v8 [] (cnQ ds e).1.2
theorem ch_to {ds : List Dl} {e : List Dop} {w : World} {y : Ending} {w' : World} (h : RChP ds e w y w') : ∃ a1 c1 v8, y = .returned (.tuple #[.slice a1 (cnQ ds e).1.1.length c1, v8, .int .i64 (cnQ ds e).2]) ∧ IsO w' a1 (cnQ ds e).1.1 ∧ ChM w w' (.slice none 0 0) v8 [] (cnQ ds e).1.2 := h
set_option maxRecDepth 100000 in
set_option maxHeartbeats 8000000 in
theorem RChain14_at (A0 : Option Addr) (cc : Nat) (ds : List Dl) (a' : Option Addr) (c' : Nat) (e : List Dop) (w : World) (h : IsDx w w A0 ds) (h' : IsO w a' e) (hl : ds.length ≤ 1048576) (hl' : e.length ≤ 1048576) (ht' : txD e ≤ 1099511627776) (hds : ∀ x ∈ ds, x.d.length ≤ 4611686018427387904 ∧ txD x.d ≤ 1099511627776) :
    Calls Try.prog 31 #[.slice A0 ds.length cc, .slice a' e.length c'] w (RChP ds e w) := by
  have HH := hide fun (Y : World) (hY : Below w.heap.size w Y) => h.on hY
  have HDS := hide hds
  have HVE := hide fun (X : World) (hX : Below w.heap.size w X) => RValid14_at a' c' e X (h'.below hX (Nat.le_refl _)) (Nat.le_trans hl' (by decide)) ht'
  have HEI := hide fun (X : World) (hX : Below w.heap.size w X) => h'.below hX (Nat.le_refl _)
  have HTE := hide (And.intro ht' (Nat.le_trans hl' (show 1048576 ≤ 4611686018427387904 by decide)))
  have hnil : ∀ (X : World), Below w.heap.size w X → ∀ E : Int, cnQ ds e = (([], []), E) → RChP ds e w (.returned (.tuple #[.slice none 0 0, .slice none 0 0, .int .i64 E])) X := fun X hX E hE => by
    refine ⟨none, 0, .slice none 0 0, by rw [hE]; rfl, by rw [hE]; exact .inl rfl, by rw [hE]; exact ChM.nil w X hX⟩
  have HNIL := hide hnil
  clear h h' hds ht' hl' hnil
  go_enter Try.func31, Try.ntmps31
  go_wp2_with fail
  go_loopw [7] (fun v7 wx => ∃ k : Nat, v7 = .int .i64 (k : Int) ∧ k ≤ ds.length ∧ Hid ((ds.take k).all (fun x => valB x.d) = true ∧ Below w.heap.size w wx)) (fun v7 _ => ds.length - (intOf v7).toNat)
  case atStart => exact ⟨0, rfl, Nat.zero_le _, hide ⟨rfl, Below.refl _ _⟩⟩
  case round =>
    obtain ⟨k, rfl, hk, HI⟩ := hrel
    by_cases hlt : k < ds.length
    · obtain ⟨s1, s2, s3⟩ := dlt hlt
      have hS := unhide HH wr (unhide HI).2
      obtain ⟨gA, oA, hA0, _, q0⟩ := hS.c k hlt
      subst hA0
      have hO := (hS.o k hlt).1
      obtain ⟨hlen, htx⟩ := unhide HDS _ (mem_dl hlt)
      have HVA := hide (RValid14_at (ds.getD k dlZ).a (ds.getD k dlZ).c (ds.getD k dlZ).d wr (hO.below (unhide HI).2 (Nat.le_refl _)) hlen htx)
      have HT := hide (all_dl hlt)
      have HNO := hide (all_dn hlt)
      have Wk := gr_w hlt (Nat.le_trans hl (show 1048576 ≤ 4611686018427387904 by decide))
      have HB := hide (unhide HI).2
      have HI1 := hide (unhide HI).1
      clear hS hO hlen htx hk HI
      generalize ds.getD k dlZ = q at *
      obtain ⟨qa, qc, qd⟩ := q
      dsimp only at *
      go_wp2_with fail
      refine (unhide HVA).mono ?_
      rintro y w1 ⟨rfl, x1⟩
      dsimp only
      have HB2 := hide ((unhide HB).trans (x1.mono (unhide HB).size))
      cases hv : valB qd with
      | false =>
        have HQ := hide (unhide HNIL w1 (unhide HB2) 130 (cn_130 (.inl (unhide HNO hv))))
        clear HVA HB x1 hv HT HNO HI1 q0
        go_wp2_with fail
        refine bodyPost_ret (results_tmp3 rfl _ _) rfl ?_
        exact unhide HQ
      | true =>
        have HN : Hid ((ds.take (k + 1)).all (fun x => valB x.d) = true) := hide (by rw [unhide HT, unhide HI1, hv]; rfl)
        clear HVA HB x1 hv HT HNO HI1 q0
        go_wp2_with fail
        go_roundw
        case rel => exact ⟨k + 1, by first | rfl | exact congrArg _ Wk | go_num, hlt, hide ⟨unhide HN, unhide HB2⟩⟩
        case measure => first | exact gr_ms3 hlt | exact gr_ms hlt Wk
    · obtain rfl : k = ds.length := Nat.le_antisymm hk (Nat.not_lt.1 hlt)
      obtain ⟨s1, s2, s3⟩ := dnl hlt
      have HAL : Hid (ds.all (fun x => valB x.d) = true) := hide (by have := (unhide HI).1; rw [List.take_length] at this; exact this)
      have HB := hide (unhide HI).2
      have HC := hide (unhide HVE wr (unhide HB))
      clear HI hk hlt HVE
      go_wp2_with fail
      refine (unhide HC).mono ?_
      rintro y w1 ⟨rfl, x1⟩
      dsimp only
      have HB2 := hide ((unhide HB).trans (x1.mono (unhide HB).size))
      clear HC HB x1
      cases hv : valB e with
      | false =>
        have HQ := hide (unhide HNIL w1 (unhide HB2) 130 (cn_130 (.inr hv)))
        clear hv HAL
        go_wp2_with fail
        refine bodyPost_ret (results_tmp3 rfl _ _) rfl ?_
        exact unhide HQ
      | true =>
        have HVV := hide hv
        clear hv s1 s2 s3
        go_wp2_with fail
        go_loopw [8, 9, 10, 11, 12] (fun v8 v9 v10 v11 v12 wx => ((∃ z, v9 = z) ∧ (∃ z, v10 = z) ∧ (∃ z, v11 = z) ∧ (∃ z, v12 = z)) ∧ ∃ k : Nat, v8 = .int .i64 (k : Int) ∧ k ≤ ds.length ∧ Hid ((∀ j, j < k → j + 1 < ds.length → toD (ds.getD j dlZ).d = frD (ds.getD (j + 1) dlZ).d) ∧ Below w.heap.size w wx)) (fun v8 _ _ _ _ _ => ds.length - (intOf v8).toNat)
        case atStart => exact ⟨⟨⟨_, rfl⟩, ⟨_, rfl⟩, ⟨_, rfl⟩, ⟨_, rfl⟩⟩, ⟨0, rfl, Nat.zero_le _, hide ⟨fun j hj => by omega, unhide HB2⟩⟩⟩
        case round =>
          clear HB2
          obtain ⟨⟨⟨z1, rfl⟩, ⟨z2, rfl⟩, ⟨z3, rfl⟩, ⟨z4, rfl⟩⟩, ⟨k, rfl, hk, HI⟩⟩ := hrel
          have Wk := two_k (Nat.le_trans hl (by decide)) hk
          by_cases hlt : k + 1 < ds.length
          · obtain ⟨s1, s2, s3, s4, s5, s6, s7⟩ := dlt1 hlt
            have hlt0 : k < ds.length := Nat.lt_of_succ_lt hlt
            have HS := hide fun X hX => unhide HH X hX
            obtain ⟨gA, oA, hA0, _, q0⟩ := (unhide HH wr (unhide HI).2).c k hlt0
            subst hA0
            obtain ⟨_, _, hA1, _, q1⟩ := (unhide HH wr (unhide HI).2).c (k + 1) hlt
            cases hA1
            have HCE : Hid (∀ X, Below w.heap.size w X → X.cell? ⟨gA, oA + (k + 1), none⟩ = some (.slice (ds.getD (k + 1) dlZ).a (ds.getD (k + 1) dlZ).d.length (ds.getD (k + 1) dlZ).c)) := hide fun X hX => by
              obtain ⟨_, _, e1, _, q⟩ := (unhide HH X hX).c (k + 1) hlt
              cases e1
              exact q
            have v0 := val_dl (unhide HAL) hlt0
            have v1 := val_dl (unhide HAL) hlt
            have n0 := (valB_nn v0).2
            have n1 := (valB_nn v1).2
            have HL0 := hide (lens14_at (ds.getD k dlZ).a (ds.getD k dlZ).c (ds.getD k dlZ).d wr (((unhide HH wr (unhide HI).2).o k hlt0).1.below (unhide HI).2 (Nat.le_refl _)) (unhide HDS _ (mem_dl hlt0)).1 (val_PlO v0) (Nat.le_trans n0.1 (by decide)) (Nat.le_trans n0.2 (by decide)))
            have HL1 := hide fun X (hX : Below w.heap.size w X) => lens14_at (ds.getD (k + 1) dlZ).a (ds.getD (k + 1) dlZ).c (ds.getD (k + 1) dlZ).d X (((unhide HH X hX).o (k + 1) hlt).1.below hX (Nat.le_refl _)) (unhide HDS _ (mem_dl hlt)).1 (val_PlO v1) (Nat.le_trans n1.1 (by decide)) (Nat.le_trans n1.2 (by decide))
            have HB := hide (unhide HI).2
            have HNX : Hid (toD (ds.getD k dlZ).d = frD (ds.getD (k + 1) dlZ).d → ∀ j, j < k + 1 → j + 1 < ds.length → toD (ds.getD j dlZ).d = frD (ds.getD (j + 1) dlZ).d) := hide fun hh j h1 h2 => by
              rcases Nat.lt_or_ge j k with h3 | h3
              · exact (unhide HI).1 j h3 h2
              · obtain rfl : j = k := by omega
                exact hh
            have HNO : Hid (¬ toD (ds.getD k dlZ).d = frD (ds.getD (k + 1) dlZ).d → ¬ LnkD ds) := hide fun hh hL => hh (hL k hlt)
            clear v0 v1 n0 n1 HI HS q1
            generalize ds.getD k dlZ = x at *
            generalize ds.getD (k + 1) dlZ = x' at *
            obtain ⟨xa, xc, xd⟩ := x
            obtain ⟨ya, yc, yd⟩ := x'
            dsimp only at *
            generalize toD xd = tx at *
            generalize frD xd = fx at *
            generalize toD yd = ty at *
            generalize frD yd = fy at *
            go_wp2_with fail
            refine (unhide HL0).mono ?_
            rintro y w2 ⟨rfl, x2⟩
            dsimp only
            have HB3 := hide ((unhide HB).trans (x2.mono (unhide HB).size))
            have HC1 := hide (unhide HL1 w2 (unhide HB3))
            have q1 := unhide HCE w2 (unhide HB3)
            clear HL0 HB x2 HL1 q0 HCE
            go_wp2_with fail
            refine (unhide HC1).mono ?_
            rintro y w3 ⟨rfl, x3⟩
            dsimp only
            have HB4 := hide ((unhide HB3).trans (x3.mono (unhide HB3).size))
            clear HC1 HB3 x3 q1
            by_cases hE : tx = fy
            · subst hE
              have t1 : ((tx : Int) != (tx : Int)) = false := by simp
              have HN2 := hide (unhide HNX rfl)
              clear HNX HNO
              go_wp2_with fail
              go_roundw
              case rel => exact ⟨⟨⟨_, rfl⟩, ⟨_, rfl⟩, ⟨_, rfl⟩, ⟨_, rfl⟩⟩, ⟨k + 1, by first | rfl | exact congrArg _ Wk | go_num, hlt0, hide ⟨unhide HN2, unhide HB4⟩⟩⟩
              case measure => first | exact gr_ms3 hlt0 | exact gr_ms hlt0 Wk
            · have t1 : ((tx : Int) != (fy : Int)) = true := nat_ne hE
              have HQ := hide (unhide HNIL w3 (unhide HB4) 131 (cn_131 (unhide HAL) (unhide HVV) (unhide HNO hE)))
              clear HNX HNO hE
              go_wp2_with fail
              refine bodyPost_ret (results_tmp3 rfl _ _) rfl ?_
              exact unhide HQ
          · obtain ⟨s1, s2, s3, s4⟩ := dnl1 hlt
            have HLK : Hid (LnkD ds) := hide fun j hj => (unhide HI).1 j (by omega) hj
            have HQ0 := hide (cn_doc (unhide HAL) (unhide HVV) (unhide HLK))
            have HB := hide (unhide HI).2
            clear HI HLK hlt hk
            go_wp2_with fail
            go_loopw [1, 13, 14, 15, 16, 17] (fun v1 v13 v14 v15 v16 v17 wx => ((∃ z, v15 = z) ∧ (∃ z, v16 = z) ∧ (∃ z, v17 = z)) ∧ ∃ (k : Nat) (b : List Dop) (L : List (List Dop)) (a1 : Option Addr) (c1 : Nat), v14 = .int .i64 (k : Int) ∧ v1 = .slice a1 b.length c1 ∧ k ≤ ds.length ∧ Hid (ChM w wx (.slice none 0 0) v13 [] L) ∧ Hid (IsO wx a1 b ∧ txD b ≤ 1099511627776 ∧ b.length ≤ 4611686018427387904 ∧ L.length = k ∧ cnQ ds e = preL L (chL ((ds.drop k).map (·.d)) b))) (fun _ _ v14 _ _ _ _ => ds.length - (intOf v14).toNat)
            case atStart => exact ⟨⟨⟨_, rfl⟩, ⟨_, rfl⟩, ⟨_, rfl⟩⟩, ⟨0, e, [], _, _, rfl, rfl, Nat.zero_le _, hide (ChM.nil w _ (unhide HB)), hide ⟨unhide HEI _ (unhide HB), (unhide HTE).1, (unhide HTE).2, rfl, by rw [unhide HQ0, List.drop_zero]; exact pre_nil _⟩⟩⟩
            case round =>
              clear HB HQ0
              obtain ⟨⟨⟨z1, rfl⟩, ⟨z2, rfl⟩, ⟨z3, rfl⟩⟩, ⟨k, b, L, a1, c1, rfl, rfl, hk, HM, HI⟩⟩ := hrel
              by_cases hlt : k < ds.length
              · obtain ⟨s1, s2, s3⟩ := dlt hlt
                obtain ⟨i1, i2, i3, i4, i5⟩ := unhide HI
                have hS := unhide HH wr (unhide HM).d
                obtain ⟨gA, oA, hA0, _, q0⟩ := hS.c k hlt
                subst hA0
                have hO := (hS.o k hlt).1.below (unhide HM).d (Nat.le_refl _)
                obtain ⟨hlen, htx⟩ := unhide HDS _ (mem_dl hlt)
                have HBO := hide (RBothR14_at (ds.getD k dlZ).a (ds.getD k dlZ).c (ds.getD k dlZ).d a1 c1 b wr hO i1 htx i2 hlen i3)
                rw [drop_dl hlt, List.map_cons] at i5
                simp only [chL] at i5
                have Wk := gr_w hlt (Nat.le_trans hl (show 1048576 ≤ 4611686018427387904 by decide))
                have hLl := ch_sz i4 hlt hl
                have HLT := hide hlt
                have HI4 := hide i4
                clear HI hS hO hlen htx i1 i2 i3 i4 hk
                generalize ds.getD k dlZ = x at *
                obtain ⟨xa, xc, d⟩ := x
                dsimp only at q0 HBO i5
                by_cases hE : boE d b = 0
                · rw [if_pos hE, pre_pre] at i5
                  rw [hE] at HBO
                  have hv2 : valB (boB d b) = true := by
                    obtain ⟨_, o2, _, eB⟩ := bo_ok hE
                    rw [eB]; exact o2.v
                  have HQ2 := hide (And.intro (Nat.le_trans (tx_val hv2) (show 268435456 ≤ 1099511627776 by decide)) (And.intro (val_small hv2).1 i5))
                  clear hE hv2 i5
                  generalize boA d b = XA at *
                  generalize boB d b = YB at *
                  go_wp2_with fail
                  refine (unhide HBO).mono ?_
                  rintro y w3 ⟨v2, v3, rfl, o2, o3, x3⟩
                  dsimp only
                  obtain ⟨a6, c6, rfl, _, _⟩ := own_isOC o2
                  obtain ⟨a7, c7, rfl, _, _⟩ := own_isOC o3
                  have hm3 := (unhide HM).on x3
                  have hwl := (unhide HM).d.size
                  obtain ⟨v', W', r2, m2⟩ := hm3.push (own_lower o2 hwl) (own_lower o3 hwl) hLl
                  have R2 := hide r2
                  have HIY := hide (own_isD m2.b)
                  have HM2 : Hid (ChM w W' (.slice none 0 0) v' [] (L ++ [XA])) := hide ⟨row_nilD _ _, m2.l, m2.d⟩
                  clear HBO HM o2 o3 x3 hm3 hwl r2 m2 q0 hLl
                  go_wp2_with (at_builtin; refine wpList_append_known rfl _ _ 57 57 rfl _ _ rfl rfl _ _ (unhide R2) ?_; clear R2)
                  go_roundw
                  case rel => exact ⟨⟨⟨_, rfl⟩, ⟨_, rfl⟩, ⟨_, rfl⟩⟩, ⟨k + 1, YB, L ++ [XA], a7, c7, by first | rfl | exact congrArg _ Wk | go_num, rfl, hlt, HM2, hide ⟨unhide HIY, (unhide HQ2).1, (unhide HQ2).2.1, by simp [unhide HI4], (unhide HQ2).2.2⟩⟩⟩
                  case measure => first | exact gr_ms3 hlt | exact gr_ms hlt Wk
                · rw [if_neg hE, pre_err hE] at i5
                  have t2 : (boE d b != 0) = true := by simpa using hE
                  have HE := hide hE
                  have HQ5 := hide i5
                  clear hE i5
                  generalize boE d b = BE at *
                  generalize boA d b = XA at *
                  generalize boB d b = YB at *
                  go_wp2_with fail
                  refine (unhide HBO).mono ?_
                  rintro y w3 ⟨v2, v3, rfl, o2, o3, x3⟩
                  dsimp only
                  have HQ := hide (unhide HNIL w3 ((unhide HM).on x3).d BE (unhide HQ5))
                  clear HBO HM o2 o3 x3 q0 HQ5
                  go_wp2_with fail
                  refine bodyPost_ret (results_tmp3 rfl _ _) rfl ?_
                  exact unhide HQ
              · obtain rfl : k = ds.length := Nat.le_antisymm hk (Nat.not_lt.1 hlt)
                obtain ⟨s1, s2, s3⟩ := dnl hlt
                obtain ⟨i1, _, _, _, i5⟩ := unhide HI
                rw [List.drop_length] at i5
                have hq : cnQ ds e = ((b, L), 0) := by rw [i5]; simp [chL, preL]
                have HQ : Hid (RChP ds e w (.returned (.tuple #[.slice a1 b.length c1, u13, .int .i64 0])) wr) := hide ⟨a1, c1, u13, by rw [hq], by rw [hq]; exact i1, by rw [hq]; exact unhide HM⟩
                clear HI i1 i5 hq hk hlt
                go_wp2_with fail
                refine bodyPost_ret (results_tmp3 rfl _ _) rfl ?_
                exact unhide HQ

end Go.Proofs.Ytjjdgfjlpkhgcaa
end

section
namespace Go.Proofs.Ytjjdgfjlpkhgcaa
open Go.ChangeShapes Go.WideShapes Go.ChangeAt Go.RowKit

theorem ownC : ownKnob Try.prog.godebug = none := by kernel_rfl
theorem laidOut : laidOutB Try.prog = true := by kernel_rfl
noncomputable def laidWorld (os : Os) : World := World.holding Try.prog os ⟨#[], #[], []⟩
/-- a []byte that came in reads as these bytes -/
theorem row_of_trod {H : Type} {enc : TypeId × Value → H} {W : World} {a0 : Option Addr} {len0 cap0 : Nat} {d0 : DataW H} {p0 : List MemPlace}
    (h0 : DataW.Trod enc Try.prog W 0 (fun _ => true) true 22 (Value.slice a0 len0 cap0) d0 p0)
    {ts : List TypeId} {ds : List (DataW H)} {j : Nat} (hsz : (DataW.weightsEach Try.prog ts ds).all (· ≤ reachBytes) = true) (ht : ts[j]? = some 22) (hd : ds[j]? = some d0) :
    ∃ l : List Int, len0 = l.length ∧ IsB W a0 cap0 l := by
  obtain ⟨fuel, hf⟩ := h0
  rcases open_ints Try.underlying22 Try.underlying5 (by kernel_rfl) hf with ⟨hcs, _⟩ | ⟨x, l, c, zs, hcs, _, hl, hm, hz, hx, hcell, hwz⟩
  · simp [Value.cells] at hcs
    obtain ⟨rfl, rfl, rfl⟩ := hcs
    exact ⟨[], rfl, by simp, by simp, Or.inl rfl, by simp⟩
  · simp [Value.cells] at hcs
    obtain ⟨rfl, rfl, rfl⟩ := hcs
    simp only [Prod.mk.injEq] at hx
    obtain ⟨rfl, _⟩ := hx
    have hz' : zs.length = cap0 := by simpa using hz
    have hs := sized_slice hsz ht hd Try.underlying22
    rw [show Try.prog.bytesOf 5 = 1 by kernel_rfl] at hs
    have hr : reachBytes = 140737488351232 := rfl
    simp [lits] at hs
    have hlen : (zs.take len0).length = len0 := by simp; omega
    have hby : ∀ x ∈ zs, 0 ≤ x ∧ x ≤ 255 := fun n hn => bounds_u8 (hwz n hn)
    refine ⟨zs.take len0, hlen.symm, by rw [hlen]; omega, by rw [hlen]; omega, ?_, fun y hy => hby y (List.mem_of_mem_take hy)⟩
    rcases Nat.eq_zero_or_pos len0 with h0 | h0
    · subst h0; exact Or.inl rfl
    · obtain ⟨b, off, spot⟩ := x
      have hspot : spot = none := by simpa [Addr.add] using World.cell?_spot (hcell 0 (by omega))
      subst hspot
      refine Or.inr ⟨b, off, rfl, fun i hi => ?_⟩
      rw [hlen] at hi
      have e : (zs.take len0).getD i 0 = zs.getD i 0 := by simp [List.getD, hi]
      rw [e]
      have hc := hcell i (by omega)
      rw [Addr.add_lit] at hc
      refine ⟨hc, ?_⟩
      have := hby (zs[i]'(by omega)) (List.getElem_mem _)
      simpa [List.getD, List.getElem?_eq_getElem (show i < zs.length by omega)] using this
theorem one_intO {H : Type} {enc : TypeId × Value → H} {P : Program} {W : World} {spare : Nat → Bool} {m : Nat} {t : TypeId} (ht : P.underlying t = some (.int .i64)) {xs : List (DataW H × List MemPlace)} {L : List Value} {i k : Nat} (hi : i < xs.length)
    (h : DataW.trod enc P W 0 spare true m t ((L.drop k).take 1) = xs[i]?) : ∃ n : Int, L[k]? = some (.int .i64 n) := by
  rw [List.getElem?_eq_getElem hi] at h
  obtain ⟨n, hn, _⟩ := DataW.trod_int ht h
  refine ⟨n, ?_⟩
  have := congrArg (·[0]?) hn
  simpa [List.getElem?_take, List.getElem?_drop] using this
theorem one_strO {H : Type} {enc : TypeId × Value → H} {P : Program} {W : World} {spare : Nat → Bool} {m : Nat} {t : TypeId} (ht : P.underlying t = some .string) {xs : List (DataW H × List MemPlace)} {L : List Value} {i k : Nat} (hi : i < xs.length)
    (h : DataW.trod enc P W 0 spare true m t ((L.drop k).take 1) = xs[i]?) : ∃ s : ByteArray, L[k]? = some (.string s) ∧ (xs[i]'hi).1 = .lit (.string s.data.toList) := by
  rw [List.getElem?_eq_getElem hi] at h
  obtain ⟨n, hn, hx⟩ := DataW.trod_string ht h
  refine ⟨n, ?_, by rw [hx.1]⟩
  have := congrArg (·[0]?) hn
  simpa [List.getElem?_take, List.getElem?_drop] using this
/-- a string's bytes as numbers -/
def numsO (s : ByteArray) : List Int := s.data.toList.map fun u => (u.toNat : Int)
theorem numsO_in (s : ByteArray) : ∀ x ∈ numsO s, 0 ≤ x ∧ x ≤ 255 := by
  intro x hx
  obtain ⟨u, _, rfl⟩ := List.mem_map.1 hx
  have := u.toNat_lt
  omega
theorem str_numsO (s : ByteArray) : strOfNums (numsO s) = s := by
  unfold strOfNums numsO
  apply ByteArray.ext
  have e : ((fun n : Int => UInt8.ofNat n.toNat) ∘ fun u : UInt8 => (u.toNat : Int)) = id := by
    funext u
    simp
  rw [List.map_map, e, List.map_id]
theorem wE_atO {H : Type} {P : Program} : ∀ {ts : List TypeId} {ds : List (DataW H)} {j : Nat} {t : TypeId} {d : DataW H}, ts[j]? = some t → ds[j]? = some d → ∀ x ∈ d.weights P t, x ∈ DataW.weightsEach P ts ds
  | [], _, _, _, _, ht, _, _, _ => by simp at ht
  | _ :: _, [], _, _, _, _, hd, _, _ => by simp at hd
  | t0 :: ts, d0 :: ds, 0, t, d, ht, hd, x, hx => by
    simp only [List.getElem?_cons_zero, Option.some.injEq] at ht hd
    subst ht hd
    rw [DataW.weightsEach]
    exact List.mem_append_left _ hx
  | t0 :: ts, d0 :: ds, j + 1, t, d, ht, hd, x, hx => by
    simp only [List.getElem?_cons_succ] at ht hd
    rw [DataW.weightsEach]
    exact List.mem_append_right _ (wE_atO ht hd x hx)
theorem wA_atO {H : Type} {P : Program} {e : TypeId} : ∀ {l : List (DataW H)} {d : DataW H}, d ∈ l → ∀ x ∈ d.weights P e, x ∈ DataW.weightsAll P e l
  | [], _, h, _, _ => by simp at h
  | d0 :: r, d, h, x, hx => by
    rw [DataW.weightsAll]
    rcases List.mem_cons.1 h with rfl | h
    · exact List.mem_append_left _ hx
    · exact List.mem_append_right _ (wA_atO h x hx)
instance : Inhabited Dop := ⟨opZ⟩
set_option maxRecDepth 100000 in
theorem op_cells {H : Type} {enc : TypeId × Value → H} {W : World} {cs : List Value} {fuel : Nat} {x : DataW H × List MemPlace}
    (hl : cs.length = 3) (hb : ∀ y ∈ x.1.weights Try.prog 34, y ≤ reachBytes) (hf : DataW.trod enc Try.prog W 0 (fun _ => true) true fuel 34 cs = some x) : ∃ q : Dop, cs = opL q ∧ TbD q ∧ q.t.length ≤ 140737488355328 := by
  obtain ⟨xs, n, _, hxx, _, hx, hall⟩ := DataW.trod_struct Try.underlying34 hf
  have hx' : xs.length = 3 := hx
  have hc : Try.prog.cellsOf 3 = 1 := by kernel_rfl
  have hc1 : Try.prog.cellsOf 32 = 1 := by kernel_rfl
  have hc2 : Try.prog.cellsOf 9 = 1 := by kernel_rfl
  have j0 : DataW.trod enc Try.prog W 0 (fun _ => true) true n 32 ((cs.drop 0).take (Try.prog.cellsOf 32)) = xs[0]? := hall 0 _ rfl
  have j1 : DataW.trod enc Try.prog W 0 (fun _ => true) true n 3 ((cs.drop 1).take (Try.prog.cellsOf 3)) = xs[1]? := hall 1 _ rfl
  have j2 : DataW.trod enc Try.prog W 0 (fun _ => true) true n 9 ((cs.drop 2).take (Try.prog.cellsOf 9)) = xs[2]? := hall 2 _ rfl
  rw [hc1] at j0
  rw [hc] at j1
  rw [hc2] at j2
  obtain ⟨k, e0⟩ := one_intO Try.underlying32 (by omega) j0
  obtain ⟨m, e1⟩ := one_intO Try.underlying3 (by omega) j1
  obtain ⟨s, e2, es⟩ := one_strO Try.underlying9 (by omega) j2
  refine ⟨⟨k, m, numsO s⟩, ?_, numsO_in s, ?_⟩
  · unfold opL
    dsimp only
    rw [str_numsO]
    apply List.ext_getElem?
    intro i
    match i with
    | 0 => exact e0
    | 1 => exact e1
    | 2 => exact e2
    | i + 3 => rw [List.getElem?_eq_none (by omega)]; rfl
  · have h1 : (xs.map fun x => x.1)[2]? = some (xs[2]'(by omega)).1 := by simp [List.getElem?_eq_getElem (show 2 < xs.length by omega)]
    have hr : reachBytes = 140737488351232 := rfl
    have := hb s.data.toList.length (by
      rw [hxx]
      simp only [DataW.weights, Try.underlying34]
      refine wE_atO (j := 2) (t := 9) rfl h1 _ ?_
      rw [es]
      simp [DataW.weights])
    simp only [numsO, List.length_map]
    omega
set_option maxRecDepth 100000 in
/-- the list of operations -/
theorem ops_of_trod {H : Type} {enc : TypeId × Value → H} {W : World} {a0 : Option Addr} {len0 cap0 : Nat} {d0 : DataW H} {p0 : List MemPlace}
    (h0 : DataW.Trod enc Try.prog W 0 (fun _ => true) true 24 (Value.slice a0 len0 cap0) d0 p0)
    {ts : List TypeId} {ds : List (DataW H)} {j : Nat} (hsz : (DataW.weightsEach Try.prog ts ds).all (· ≤ reachBytes) = true) (ht : ts[j]? = some 24) (hd : ds[j]? = some d0) :
    ∃ q : List Dop, len0 = q.length ∧ IsO W a0 q ∧ (q = [] ∨ ∃ p, a0 = some p) ∧ q.length * 32 ≤ 140737488355328 ∧ ∀ o ∈ q, TbD o ∧ o.t.length ≤ 140737488355328 := by
  have hall : ∀ y ∈ d0.weights Try.prog 24, y ≤ reachBytes := fun y hy => of_decide_eq_true (List.all_eq_true.1 hsz y (wE_atO ht hd y hy))
  obtain ⟨fuel, hf⟩ := h0
  rcases Go.Deep.open_slice Try.underlying24 hf with ⟨hcs, _⟩ | ⟨a, len, cap, m, n, D, Pl, hcs, _, hl, hm, hmm, hx, hrow⟩
  · simp [Value.cells] at hcs
    obtain ⟨rfl, rfl, rfl⟩ := hcs
    exact ⟨[], rfl, Or.inl rfl, Or.inl rfl, by simp, by simp⟩
  · simp [Value.cells] at hcs
    obtain ⟨rfl, rfl, rfl⟩ := hcs
    simp only [Prod.mk.injEq] at hx
    obtain ⟨rfl, _⟩ := hx
    have hs := sized_slice hsz ht hd Try.underlying24
    rw [show Try.prog.bytesOf 34 = 32 by kernel_rfl] at hs
    have hr : reachBytes = 140737488351232 := rfl
    simp only [List.length_map, List.length_range] at hs
    simp only [DataW.weights, Try.underlying24] at hall
    simp only [if_true] at hmm
    subst hmm
    have ce : Try.prog.cellsOf 34 = 3 := by kernel_rfl
    have each : ∀ r, r < len0 → ∃ y : Dop, (TbD y ∧ y.t.length ≤ 140737488355328) ∧ ∀ j, j < 3 → W.cell? (a.add (r * 3 + j)) = (opL y)[j]? := by
      intro r hr
      obtain ⟨cs', h1, h2⟩ := hrow r (by omega)
      rw [ce] at h1
      obtain ⟨_, hlen, hcell⟩ := World.cells?_some h1
      have hbr : ∀ y ∈ (D r).weights Try.prog 34, y ≤ reachBytes := fun y hy => hall y (List.mem_cons_of_mem _ (List.mem_append_left _ (wA_atO (by simp; exact ⟨r, hr, rfl⟩) y hy)))
      obtain ⟨y, rfl, hby⟩ := op_cells hlen hbr h2
      refine ⟨y, hby, fun j hj => ?_⟩
      have e := hcell j (by omega)
      rw [Go.Deep.add_add] at e
      rw [e, List.getElem?_eq_getElem (by simpa [opL] using hj)]
    obtain ⟨y, hy⟩ := Go.Deep.choose_lt each
    refine ⟨(List.range len0).map y, by simp, ?_, Or.inr ⟨_, rfl⟩, by simp; omega, ?_⟩
    · rcases Nat.eq_zero_or_pos len0 with h0 | h0
      · subst h0; exact Or.inl rfl
      · obtain ⟨b, off, spot⟩ := a
        have hc1 : W.cell? (Addr.add ⟨b, off, spot⟩ (0 * 3 + 0)) = some (.int .i64 (y 0).k) := (hy 0 (by omega)).2 0 (by decide)
        have hspot : spot = none := by simpa [Addr.add] using World.cell?_spot hc1
        subst hspot
        have hbl : b < W.heap.size := by
          rcases Nat.lt_or_ge b W.heap.size with h | h
          · exact h
          · rw [Addr.add_lit] at hc1
            simp [World.cell?, Array.getElem?_eq_none h] at hc1
        refine Or.inr ⟨b, off, rfl, hbl, fun r hr => ?_⟩
        simp only [List.length_map, List.length_range] at hr
        have hgr : ((List.range len0).map y).getD r opZ = y r := by simp [List.getD, hr]
        rw [hgr]
        have f : ∀ j, j < 3 → W.cell? ⟨b, off + (r * 3 + j), none⟩ = (opL (y r))[j]? := fun j hj => by have := (hy r hr).2 j hj; rwa [Addr.add_lit] at this
        exact ⟨f 0 (by decide), f 1 (by decide), f 2 (by decide)⟩
    · intro o ho
      obtain ⟨r, hr, rfl⟩ := List.mem_map.1 ho
      exact (hy r (by simpa using hr)).1
end Go.Proofs.Ytjjdgfjlpkhgcaa
end
