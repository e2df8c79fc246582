/- Layer 13, the document's Canon. · Layer 13, the document's Valid. · Layer 13, the document's Lens. -/
import Derived.Test.YtifpjdodignflaaRp20
import Derived.Deep.QuietTactic
import Derived.BigQuiet
import Derived.WalkSmall

section
namespace Go.Proofs.Ytifpjdodignflaa
open Go.ChangeShapes Go.WideShapes Go.ChangeAt Go.RowKit
attribute [local go_sem] Oper.semAt_some

theorem kn_cases (o : Dop) : (knB o = true ∧ decide (o.k < 1) = false ∧ decide (o.k > 3) = false ∧ decide (3 < o.k) = false ∧ ((o.k != 2) = false ∨ ((o.k != 2) = true ∧ decide (o.n < 0) = false))) ∨
    (knB o = false ∧ (decide (o.k < 1) = true ∨ (decide (o.k < 1) = false ∧ decide (o.k > 3) = true ∧ decide (3 < o.k) = true) ∨ (decide (o.k < 1) = false ∧ decide (o.k > 3) = false ∧ decide (3 < o.k) = false ∧ (o.k != 2) = true ∧ decide (o.n < 0) = true))) := by
  obtain ⟨k, n, t⟩ := o
  unfold knB
  dsimp only
  by_cases h1 : k < 1
  · right; refine ⟨?_, .inl (decide_eq_true h1)⟩; simp; omega
  by_cases h2 : 3 < k
  · right; refine ⟨?_, .inr (.inl ⟨decide_eq_false h1, decide_eq_true h2, decide_eq_true h2⟩)⟩; simp; omega
  by_cases h3 : k = 2
  · left; subst h3; simp
  by_cases h4 : n < 0
  · right; refine ⟨?_, .inr (.inr ⟨decide_eq_false h1, decide_eq_false h2, decide_eq_false h2, by simpa using h3, decide_eq_true h4⟩)⟩; simp; omega
  · left; refine ⟨?_, decide_eq_false h1, decide_eq_false h2, decide_eq_false h2, .inr ⟨by simpa using h3, decide_eq_false h4⟩⟩; simp; omega
theorem op_small {d : List Dop} {x : Dop} (h : Can d) (hx : x ∈ d) : x.n ≤ ((dA d).length : Int) ∧ x.t.length ≤ (dA d).length := by
  obtain ⟨a, b, rfl⟩ := List.append_of_mem hx
  have hp := h.p x hx
  have e : (dA (a ++ x :: b)).length = (dA a).length + ((opA x).length + (dA b).length) := by rw [dA_app, dA_cons, List.length_append, List.length_append]
  rw [e]
  rcases hp with ⟨h1 | h1, h2, h3⟩ | ⟨h1, h2, h3⟩
  · have : (opA x).length = x.n.toNat := by simp [opA, h1]
    rw [h3]; simp; omega
  · have : (opA x).length = x.n.toNat := by simp [opA, h1]
    rw [h3]; simp; omega
  · have : (opA x).length = x.t.length := by simp [opA, h1]
    omega
theorem fin_len (u : List Atm) : (dA (feedA b0 u).fin).length = u.length := by
  have := congrArg List.length (feed_atoms u wb0)
  rw [nf_len, nf_len] at this
  exact this.trans rfl
theorem adok_feed {u : List Atm} {n : Int} {t : List Int} (hu : u.length ≤ 1073741000) (hn : 0 ≤ n ∧ n ≤ 2305843009213693952) (ht : t.length ≤ 2305843009213693952) : AdOk (feedA b0 u).fin n t := by
  have hc := can_fin (wb_feed u wb0)
  have hl := fin_len u
  refine ⟨hc, ?_, fun x hx => ?_, fun x hx => ?_, hn, ht⟩
  · have := can_len hc.p; omega
  · have := (op_small hc hx).1; omega
  · have := (op_small hc hx).2; omega
/-- one more operation, as add says and as the builder does -/
theorem add_op {u : List Atm} {x : Dop} (hk : x.k = 1 ∨ x.k = 2 ∨ x.k = 3) (hn : x.k ≠ 2 → 0 ≤ x.n) : addD (feedA b0 u).fin x.k (if x.k = 2 then 0 else x.n) (if x.k = 2 then x.t else []) = (feedA b0 (u ++ opA x)).fin := by
  have hw := wb_feed u wb0
  rw [feedA_app, ← op_atoms]
  rcases hk with h | h | h
  · obtain ⟨m, hm⟩ : ∃ m : Nat, x.n = (m : Int) := ⟨x.n.toNat, by have := hn (by omega); omega⟩
    rw [op_keep h, h, hm]
    simp only [show ¬ ((1 : Int) = 2) by decide, if_false, Int.toNat_natCast]
    exact add_keep hw m
  · rw [op_put h, h]
    simp only [if_true]
    exact add_put hw x.t
  · obtain ⟨m, hm⟩ : ∃ m : Nat, x.n = (m : Int) := ⟨x.n.toNat, by have := hn (by omega); omega⟩
    rw [op_drop h, h, hm]
    simp only [show ¬ ((3 : Int) = 2) by decide, if_false, Int.toNat_natCast]
    exact add_drop hw m
theorem dA_takeS (d : List Dop) {k : Nat} (hk : k < d.length) : dA (d.take (k + 1)) = dA (d.take k) ++ opA (d.getD k opZ) := by
  rw [List.take_add_one, List.getElem?_eq_getElem hk, Option.toList_some, dA_app]
  simp [dA, List.getD_eq_getElem?_getD, List.getElem?_eq_getElem hk]
theorem frD_le (d : List Dop) (k : Nat) : frD (d.take k) ≤ frD d ∧ toD (d.take k) ≤ toD d := by
  have h1 : frD d = frD (d.take k) + frD (d.drop k) := by unfold frD; rw [← List.sum_append, ← List.map_append, List.take_append_drop]
  have h2 : toD d = toD (d.take k) + toD (d.drop k) := by unfold toD; rw [← List.sum_append, ← List.map_append, List.take_append_drop]
  omega
theorem ca_k {f m F : Nat} (hf : f ≤ 268435456) (hm : m ≤ 140737488355328) (h : F = f + m) : wrap64 ((f : Int) + (m : Int)) = (F : Int) ∧ wrap64 ((F : Int) + 0) = (F : Int) ∧ wrap64 (F : Int) = (F : Int) := by
  subst h
  exact ⟨by rw [wrapD _ (by omega) (by omega)]; omega, by rw [wrapD _ (by omega) (by omega)]; omega, wrapD _ (by omega) (by omega)⟩
theorem ca_0 {f : Nat} (hf : f ≤ 268435456) : wrap64 ((f : Int) + 0) = (f : Int) ∧ wrap64 (f : Int) = (f : Int) := ⟨by rw [wrapD _ (by omega) (by omega)]; omega, wrapD _ (by omega) (by omega)⟩
theorem big_t {m : Nat} (h : 268435456 < m) : decide ((m : Int) > 268435456) = true ∧ decide ((268435456 : Int) < (m : Int)) = true ∧ decide (268435456 < m) = true := ⟨decide_eq_true (by omega), decide_eq_true (by omega), decide_eq_true h⟩
theorem big_f {m : Nat} (h : ¬ 268435456 < m) : decide ((m : Int) > 268435456) = false ∧ decide ((268435456 : Int) < (m : Int)) = false ∧ decide (268435456 < m) = false := ⟨decide_eq_false (by omega), decide_eq_false (by omega), decide_eq_false h⟩
/-- the state of the second loop -/
structure CaI (d : List Dop) (k f t : Nat) (L : List Dop) (w : World) (a : Option Addr) (X : World) : Prop where
  ef : f = frD (d.take k)
  et : t = toD (d.take k)
  z : f ≤ 268435456 ∧ t ≤ 268435456
  l : L = (feedA b0 (dA (d.take k))).fin
  o : IsO X a L
  d : Below w.heap.size w X
end Go.Proofs.Ytifpjdodignflaa
end

section
namespace Go.Proofs.Ytifpjdodignflaa
open Go.ChangeShapes Go.WideShapes Go.ChangeAt Go.RowKit
attribute [local go_sem] Oper.semAt_some

theorem val_pl {d : List Dop} (h : d.all plB = false) : valB d = false := by unfold valB; rw [h]; rfl
theorem val_ap {d : List Dop} (h : apL 7 d = false) : valB d = false := by unfold valB; rw [h]; cases d.all plB <;> rfl
theorem val_lo {d : List Dop} (h : 268435456 < frD d ∨ 268435456 < toD d) : valB d = false := by
  unfold valB; rw [show lonB d = true from decide_eq_true h]; cases d.all plB <;> cases apL 7 d <;> rfl
/-- the tests of one operation that keeps or drops -/
theorem kd_cases (n : Int) (t : List Int) : (n < 1 ∧ decide (n < 1) = true) ∨ (¬ n < 1 ∧ 268435456 < n ∧ decide (n < 1) = false ∧ decide (n > 268435456) = true ∧ decide (268435456 < n) = true) ∨
    (¬ n < 1 ∧ t.isEmpty = false ∧ decide (n < 1) = false ∧ decide (n > 268435456) = false ∧ decide (268435456 < n) = false) ∨
    (¬ n < 1 ∧ n ≤ 268435456 ∧ t.isEmpty = true ∧ decide (n < 1) = false ∧ decide (n > 268435456) = false ∧ decide (268435456 < n) = false) := by
  by_cases h1 : n < 1
  · exact .inl ⟨h1, decide_eq_true h1⟩
  by_cases h2 : 268435456 < n
  · exact .inr (.inl ⟨h1, h2, decide_eq_false h1, decide_eq_true h2, decide_eq_true h2⟩)
  cases h3 : t.isEmpty with
  | false => exact .inr (.inr (.inl ⟨h1, rfl, decide_eq_false h1, decide_eq_false h2, decide_eq_false h2⟩))
  | true => exact .inr (.inr (.inr ⟨h1, by omega, rfl, decide_eq_false h1, decide_eq_false h2, decide_eq_false h2⟩))
theorem put_cases (n : Int) (t : List Int) : (¬ n = 0 ∧ (n != 0) = true) ∨ (n = 0 ∧ (n != 0) = false ∧ t.isEmpty = true) ∨ (n = 0 ∧ (n != 0) = false ∧ t.isEmpty = false) := by
  by_cases h1 : n = 0
  · cases h3 : t.isEmpty with
    | true => exact .inr (.inl ⟨h1, by simp [h1], rfl⟩)
    | false => exact .inr (.inr ⟨h1, by simp [h1], rfl⟩)
  · exact .inl ⟨h1, by simpa using h1⟩
theorem kind_cases (k : Int) : k = 1 ∨ k = 2 ∨ k = 3 ∨ (¬ k = 1 ∧ ¬ k = 2 ∧ ¬ k = 3 ∧ (k == 1) = false ∧ (k == 2) = false ∧ (k == 3) = false ∧ thisN k = 0) := by
  by_cases h1 : k = 1
  · exact .inl h1
  by_cases h2 : k = 2
  · exact .inr (.inl h2)
  by_cases h3 : k = 3
  · exact .inr (.inr (.inl h3))
  refine .inr (.inr (.inr ⟨h1, h2, h3, by simpa using h1, by simpa using h2, by simpa using h3, ?_⟩))
  unfold thisN; simp [h1, h2, h3]
def prM (d : List Dop) (k : Nat) : Int := if k = 0 then 7 else nextN (d.getD (k - 1) opZ).k
theorem prM_s (d : List Dop) (k : Nat) : prM d (k + 1) = nextN (d.getD k opZ).k := by simp [prM]
theorem k_pos {k j n : Nat} (h : k = j + 1) (hl : k < 4611686018427387904) (hn : k < n) : (0 < k ∧ decide (0 < k) = true ∧ decide ((0 : Int) < (k : Int)) = true ∧ decide ((k : Int) > 0) = true ∧ (0 : Int) < (k : Int)) ∧ (j : Int) < (n : Int) ∧ (k : Int) < (n : Int) ∧ (0 : Int) ≤ (j : Int) ∧ wrap64 ((k : Int) - 1) = (j : Int) ∧ (k : Int) - 1 = (j : Int) ∧ wrap64 (j : Int) = (j : Int) :=
  ⟨⟨by omega, decide_eq_true (by omega), decide_eq_true (by omega), decide_eq_true (by omega), by omega⟩, by omega, by omega, by omega, by rw [wrapD _ (by omega) (by omega)]; omega, by omega, wrapD _ (by omega) (by omega)⟩
def VaI (d : List Dop) (k f t : Nat) : Prop := f = frD (d.take k) ∧ t = toD (d.take k) ∧ f ≤ 268435456 ∧ t ≤ 268435456 ∧ (d.take k).all plB = true ∧ apL 7 d = apL (prM d k) (d.drop k) ∧ (k = 0 ∨ (d.getD (k - 1) opZ).k = 1 ∨ (d.getD (k - 1) opZ).k = 2 ∨ (d.getD (k - 1) opZ).k = 3)
set_option maxRecDepth 100000 in
set_option maxHeartbeats 8000000 in
theorem RValid_at (a : Option Addr) (c : Nat) (d : List Dop) (w : World) (h : IsO w a d) (hl : d.length ≤ 4611686018427387904) (ht : ∀ o ∈ d, o.t.length ≤ 140737488355328) :
    Calls Try.prog 43 #[.slice a d.length c] w fun y w' => y = .returned (.bool (valB d)) ∧ Below w.heap.size w w' := by
  have HO := hide fun (X : World) (hx : Below w.heap.size w X) => h.below hx (Nat.le_refl _)
  have HT := hide ht
  obtain ⟨V, hV⟩ : ∃ V, V = valB d := ⟨_, rfl⟩
  rw [← hV]
  have HV := hide hV
  clear h ht hV
  go_enter Try.func43, Try.ntmps43
  go_wp2_with fail
  go_loopw [3, 4, 5, 6] (fun v3 v4 v5 v6 wx => (∃ z, v6 = z) ∧ (∃ (k f t : Nat), v5 = .int .i64 (k : Int) ∧ v3 = .int .i64 (f : Int) ∧ v4 = .int .i64 (t : Int) ∧ k ≤ d.length ∧ Hid (VaI d k f t)) ∧ Hid (Below w.heap.size w wx)) (fun _ _ v5 _ _ => d.length - (intOf v5).toNat)
  case atStart => exact ⟨⟨_, rfl⟩, ⟨0, 0, 0, rfl, rfl, rfl, Nat.zero_le _, hide ⟨rfl, rfl, by omega, by omega, rfl, rfl, .inl rfl⟩⟩, hide (Below.refl _ _)⟩
  case round =>
    obtain ⟨⟨z1, rfl⟩, ⟨k, f, t, rfl, rfl, rfl, hk, HI⟩, HB⟩ := hrel
    by_cases hlt : k < d.length
    · have t1 : decide ((k : Int) < (d.length : Int)) = true := decide_eq_true (by omega)
      obtain ⟨g, off, ha, hg, c0, c1, c2⟩ := (unhide HO wr (unhide HB)).three hlt
      have HPC : Hid (∀ j, k = j + 1 → j < d.length ∧ wr.cell? ⟨g, off + j * 3, none⟩ = some (.int .i64 (d.getD j opZ).k)) := hide fun j hj => by
        obtain ⟨g', off', ha', _, e0, _⟩ := (unhide HO wr (unhide HB)).three (k := j) (by omega)
        rw [ha] at ha'; cases ha'
        exact ⟨by omega, e0⟩
      subst ha
      obtain ⟨i1, i2, i3, i4, i5, i6, i7⟩ := unhide HI
      have htl := unhide HT _ (getD_memD hlt)
      have hfr := frD_take d hlt
      have hto := toD_take d hlt
      have hle := frD_le d (k + 1)
      rw [← i1] at hfr
      rw [← i2] at hto
      have HAP := apL_at hlt (prM d k)
      rw [← i6] at HAP
      have HVP : Hid (plB (d.getD k opZ) = false → V = false) := hide fun h1 => by rw [unhide HV]; exact val_pl (all_no d plB hlt h1)
      have HVF : Hid (268435456 < frD (d.take (k + 1)) ∨ 268435456 < toD (d.take (k + 1)) → V = false) := hide fun h1 => by rw [unhide HV]; exact val_lo (by omega)
      have HVA : Hid (apB (prM d k) (thisN (d.getD k opZ).k) = false → V = false) := hide fun h1 => by rw [unhide HV]; refine val_ap ?_; rw [HAP, h1]; rfl
      have HNX : Hid (∀ F T : Nat, F = frD (d.take (k + 1)) → T = toD (d.take (k + 1)) → F ≤ 268435456 → T ≤ 268435456 → plB (d.getD k opZ) = true → apB (prM d k) (thisN (d.getD k opZ).k) = true → ((d.getD k opZ).k = 1 ∨ (d.getD k opZ).k = 2 ∨ (d.getD k opZ).k = 3) →
VaI d (k + 1) F T) := hide fun F T h1 h2 h3 h4 h5 h6 h7 =>
        ⟨h1, h2, h3, h4, by rw [all_take d plB hlt, i5, h5]; rfl, by rw [HAP, h6, prM_s]; rfl, .inr (by simpa using h7)⟩
      have HPR : Hid (k = 0 ∧ prM d k = 7 ∨ ∃ (j : Nat) (p : Int), k = j + 1 ∧ j < d.length ∧ wr.cell? ⟨g, off + j * 3, none⟩ = some (.int .i64 p) ∧ prM d k = nextN p ∧ (p = 1 ∨ p = 2 ∨ p = 3)) := hide (by
        cases k with
        | zero => exact .inl ⟨rfl, rfl⟩
        | succ j =>
          obtain ⟨h1, h2⟩ := unhide HPC j rfl
          rcases i7 with i7 | i7
          · omega
          · exact .inr ⟨j, _, rfl, h1, h2, prM_s d j, by simpa using i7⟩)
      have hkl : k < 4611686018427387904 := by omega
      clear HI HPC i1 i2 i5 i6 i7 HAP hle hk
      generalize prM d k = pm at *
      generalize prM d (k + 1) = pn at *
      generalize frD (d.take (k + 1)) = F' at *
      generalize toD (d.take (k + 1)) = T' at *
      generalize (d.take (k + 1)).all plB = al at *
      generalize d.getD k opZ = x at *
      obtain ⟨xk, xn, xt⟩ := x
      dsimp only at c0 c1 c2 htl HVA HNX
      have hsz := strOfNums_size xt
      have hem := str_empD xt
      have HVD : Hid (Below w.heap.size w wr ∧ Below w.heap.size w wr.drew) := hide ⟨unhide HB, (unhide HB).drew⟩
      rcases kind_cases xk with rfl | rfl | rfl | ⟨_, _, _, s1, s2, s3, s4⟩
      · rcases kd_cases xn xt with ⟨h1, s1⟩ | ⟨h1, h2, s1, s2, s3⟩ | ⟨h1, h2, s1, s2, s3⟩ | ⟨h1, h2, h3, s1, s2, s3⟩
        · have HV2 : Hid (V = false) := hide (unhide HVP (by unfold plB; simp; omega))
          clear HVP HVF HVA HNX HPR hfr hto htl hkl i3 i4 h1
          go_wp2_with fail
          rw [unhide HV2]
          refine bodyPost_ret (results_tmp rfl _ _ _) rfl ⟨rfl, unhide HB⟩
        · have HV2 : Hid (V = false) := hide (unhide HVF (.inl (by rw [hfr]; simp [frN]; omega)))
          clear HVP HVF HVA HNX HPR hfr hto htl hkl i3 i4 h1 h2
          go_wp2_with fail
          rw [unhide HV2]
          refine bodyPost_ret (results_tmp rfl _ _ _) rfl ⟨rfl, unhide HB⟩
        · have HV2 : Hid (V = false) := hide (unhide HVP (by unfold plB; simp [h2]))
          rw [← hem] at h2
          clear hem hsz
          generalize strOfNums xt = st at *
          clear HVP HVF HVA HNX HPR hfr hto htl hkl i3 i4 h1
          go_wp2_with fail
          rw [unhide HV2]
          refine bodyPost_ret (results_tmp rfl _ _ _) rfl ⟨rfl, unhide HB⟩
        · obtain ⟨m, rfl⟩ : ∃ m : Nat, xn = (m : Int) := ⟨xn.toNat, by omega⟩
          have HPL : Hid (plB ⟨1, (m : Int), xt⟩ = true) := hide (by unfold plB; simp [h3]; omega)
          rw [show frN ⟨1, (m : Int), xt⟩ = m by simp [frN]] at hfr
          rw [show toN ⟨1, (m : Int), xt⟩ = m by simp [toN]] at hto
          have W1 := hide (ca_k i3 (by omega) hfr)
          have W2 := hide (ca_k i4 (by omega) hto)
          rw [← hem] at h3
          clear h1 h2 hem hsz
          by_cases hF : 268435456 < F'
          · have HV2 : Hid (V = false) := hide (unhide HVF (.inl hF))
            obtain ⟨p0, p1, p2⟩ := big_t hF
            clear hF HVP HVF HVA HNX HPR hfr hto htl hkl i3 i4
            obtain ⟨w1, w2, w3⟩ := unhide W1
            obtain ⟨w4, w5, w6⟩ := unhide W2
            go_wp2_with fail
            rw [unhide HV2]
            refine bodyPost_ret (results_tmp rfl _ _ _) rfl ⟨rfl, unhide HB⟩
          by_cases hT : 268435456 < T'
          · have HV2 : Hid (V = false) := hide (unhide HVF (.inr hT))
            obtain ⟨p0, p1, p2⟩ := big_f hF
            obtain ⟨r0, r1, r2⟩ := big_t hT
            clear hF hT HVP HVF HVA HNX HPR hfr hto htl hkl i3 i4
            obtain ⟨w1, w2, w3⟩ := unhide W1
            obtain ⟨w4, w5, w6⟩ := unhide W2
            go_wp2_with fail
            rw [unhide HV2]
            refine bodyPost_ret (results_tmp rfl _ _ _) rfl ⟨rfl, unhide HB⟩
          have HN2 := hide (unhide HNX F' T' rfl rfl (Nat.not_lt.1 hF) (Nat.not_lt.1 hT) (unhide HPL))
          have P0 := hide (big_f hF)
          have R0 := hide (big_f hT)
          rcases unhide HPR with ⟨hk0, hpm⟩ | ⟨j, p, hj, hjl, cp, hpm, hp⟩
          · subst hk0
            simp only [Nat.zero_mul, Nat.add_zero] at c0 c1 c2
            have HN3 := hide (unhide HN2 (by rw [hpm]; rfl) (by decide))
            clear hF hT HN2 hpm HVP HVF HVA HNX HPR hfr hto htl hkl i3 i4
            obtain ⟨p0, p1, p2⟩ := unhide P0
            obtain ⟨r0, r1, r2⟩ := unhide R0
            obtain ⟨w1, w2, w3⟩ := unhide W1
            obtain ⟨w4, w5, w6⟩ := unhide W2
            go_upto_region 21 with fail
            go_quiet (fail)
            go_wp2_with fail
            go_roundw
            case rel => exact ⟨⟨_, rfl⟩, ⟨0 + 1, F', T', by go_num, by first | rfl | go_num, by first | rfl | go_num, hlt, HN3⟩, hide (below_drewN (unhide HB) _)⟩
            case measure => simp [intOf]; omega
          · have HKP := hide (k_pos hj hkl hlt)
            rcases hp with rfl | rfl | rfl
            · have HV2 : Hid (V = false) := hide (unhide HVA (by rw [hpm]; rfl))
              clear hF hT HN2 hpm hj HVP HVF HVA HNX HPR hfr hto htl hkl i3 i4
              obtain ⟨⟨k1, k6, k7, k8, k9⟩, k2, k3, k4, k5, k10, k11⟩ := unhide HKP
              obtain ⟨p0, p1, p2⟩ := unhide P0
              obtain ⟨r0, r1, r2⟩ := unhide R0
              obtain ⟨w1, w2, w3⟩ := unhide W1
              obtain ⟨w4, w5, w6⟩ := unhide W2
              go_upto_region 21 with fail
              go_quiet (fail)
              go_wp2_with fail
              rw [unhide HV2]
              refine bodyPost_ret (results_tmp rfl _ _ _) rfl ⟨rfl, below_drewN (unhide HB) _⟩
            · have HN3 := hide (unhide HN2 (by rw [hpm]; rfl) (by decide))
              clear hF hT HN2 hpm hj HVP HVF HVA HNX HPR hfr hto htl hkl i3 i4
              obtain ⟨⟨k1, k6, k7, k8, k9⟩, k2, k3, k4, k5, k10, k11⟩ := unhide HKP
              obtain ⟨p0, p1, p2⟩ := unhide P0
              obtain ⟨r0, r1, r2⟩ := unhide R0
              obtain ⟨w1, w2, w3⟩ := unhide W1
              obtain ⟨w4, w5, w6⟩ := unhide W2
              go_upto_region 21 with fail
              go_quiet (fail)
              go_wp2_with fail
              go_roundw
              case rel => exact ⟨⟨_, rfl⟩, ⟨k + 1, F', T', by go_num, by first | rfl | go_num, by first | rfl | go_num, hlt, HN3⟩, hide (below_drewN (unhide HB) _)⟩
              case measure => simp [intOf]; omega
            · have HN3 := hide (unhide HN2 (by rw [hpm]; rfl) (by decide))
              clear hF hT HN2 hpm hj HVP HVF HVA HNX HPR hfr hto htl hkl i3 i4
              obtain ⟨⟨k1, k6, k7, k8, k9⟩, k2, k3, k4, k5, k10, k11⟩ := unhide HKP
              obtain ⟨p0, p1, p2⟩ := unhide P0
              obtain ⟨r0, r1, r2⟩ := unhide R0
              obtain ⟨w1, w2, w3⟩ := unhide W1
              obtain ⟨w4, w5, w6⟩ := unhide W2
              go_upto_region 21 with fail
              go_quiet (fail)
              go_wp2_with fail
              go_roundw
              case rel => exact ⟨⟨_, rfl⟩, ⟨k + 1, F', T', by go_num, by first | rfl | go_num, by first | rfl | go_num, hlt, HN3⟩, hide (below_drewN (unhide HB) _)⟩
              case measure => simp [intOf]; omega
      · rcases put_cases xn xt with ⟨h1, s1⟩ | ⟨h1, s1, s2⟩ | ⟨rfl, s1, s2⟩
        · have HV2 : Hid (V = false) := hide (unhide HVP (by unfold plB; simp [h1]))
          clear HVP HVF HVA HNX HPR hfr hto htl hkl i3 i4 h1
          go_wp2_with fail
          rw [unhide HV2]
          refine bodyPost_ret (results_tmp rfl _ _ _) rfl ⟨rfl, unhide HB⟩
        · have HV2 : Hid (V = false) := hide (unhide HVP (by unfold plB; simp [s2]))
          rw [← hem] at s2
          clear hem hsz
          generalize strOfNums xt = st at *
          clear HVP HVF HVA HNX HPR hfr hto htl hkl i3 i4 h1
          go_wp2_with fail
          rw [unhide HV2]
          refine bodyPost_ret (results_tmp rfl _ _ _) rfl ⟨rfl, unhide HB⟩
        · have HPL : Hid (plB ⟨2, 0, xt⟩ = true) := hide (by unfold plB; simp [s2])
          rw [show frN ⟨2, 0, xt⟩ = 0 by simp [frN]] at hfr
          rw [show toN ⟨2, 0, xt⟩ = xt.length by simp [toN]] at hto
          obtain rfl : F' = f := by omega
          have W1 := hide (ca_0 i3)
          have W2 := hide (ca_k i4 htl hto)
          rw [← hem] at s2
          clear hem
          by_cases hF : 268435456 < F'
          · have HV2 : Hid (V = false) := hide (unhide HVF (.inl hF))
            obtain ⟨p0, p1, p2⟩ := big_t hF
            clear hF HVP HVF HVA HNX HPR hfr hto htl hkl i3 i4
            obtain ⟨w1, w2⟩ := unhide W1
            obtain ⟨w4, w5, w6⟩ := unhide W2
            go_wp2_with fail
            rw [unhide HV2]
            refine bodyPost_ret (results_tmp rfl _ _ _) rfl ⟨rfl, unhide HB⟩
          by_cases hT : 268435456 < T'
          · have HV2 : Hid (V = false) := hide (unhide HVF (.inr hT))
            obtain ⟨p0, p1, p2⟩ := big_f hF
            obtain ⟨r0, r1, r2⟩ := big_t hT
            clear hF hT HVP HVF HVA HNX HPR hfr hto htl hkl i3 i4
            obtain ⟨w1, w2⟩ := unhide W1
            obtain ⟨w4, w5, w6⟩ := unhide W2
            go_wp2_with fail
            rw [unhide HV2]
            refine bodyPost_ret (results_tmp rfl _ _ _) rfl ⟨rfl, unhide HB⟩
          have HN2 := hide (unhide HNX F' T' rfl rfl (Nat.not_lt.1 hF) (Nat.not_lt.1 hT) (unhide HPL))
          have P0 := hide (big_f hF)
          have R0 := hide (big_f hT)
          rcases unhide HPR with ⟨hk0, hpm⟩ | ⟨j, p, hj, hjl, cp, hpm, hp⟩
          · subst hk0
            simp only [Nat.zero_mul, Nat.add_zero] at c0 c1 c2
            have HN3 := hide (unhide HN2 (by rw [hpm]; rfl) (by decide))
            clear hF hT HN2 hpm HVP HVF HVA HNX HPR hfr hto htl hkl i3 i4
            obtain ⟨p0, p1, p2⟩ := unhide P0
            obtain ⟨r0, r1, r2⟩ := unhide R0
            obtain ⟨w1, w2⟩ := unhide W1
            obtain ⟨w4, w5, w6⟩ := unhide W2
            go_upto_region 21 with fail
            go_quiet (fail)
            go_wp2_with fail
            go_roundw
            case rel => exact ⟨⟨_, rfl⟩, ⟨0 + 1, F', T', by go_num, by first | rfl | go_num, by first | rfl | go_num, hlt, HN3⟩, hide (below_drewN (unhide HB) _)⟩
            case measure => simp [intOf]; omega
          · have HKP := hide (k_pos hj hkl hlt)
            rcases hp with rfl | rfl | rfl
            · have HN3 := hide (unhide HN2 (by rw [hpm]; rfl) (by decide))
              clear hF hT HN2 hpm hj HVP HVF HVA HNX HPR hfr hto htl hkl i3 i4
              obtain ⟨⟨k1, k6, k7, k8, k9⟩, k2, k3, k4, k5, k10, k11⟩ := unhide HKP
              obtain ⟨p0, p1, p2⟩ := unhide P0
              obtain ⟨r0, r1, r2⟩ := unhide R0
              obtain ⟨w1, w2⟩ := unhide W1
              obtain ⟨w4, w5, w6⟩ := unhide W2
              go_upto_region 21 with fail
              go_quiet (fail)
              go_wp2_with fail
              go_roundw
              case rel => exact ⟨⟨_, rfl⟩, ⟨k + 1, F', T', by go_num, by first | rfl | go_num, by first | rfl | go_num, hlt, HN3⟩, hide (below_drewN (unhide HB) _)⟩
              case measure => simp [intOf]; omega
            · have HV2 : Hid (V = false) := hide (unhide HVA (by rw [hpm]; rfl))
              clear hF hT HN2 hpm hj HVP HVF HVA HNX HPR hfr hto htl hkl i3 i4
              obtain ⟨⟨k1, k6, k7, k8, k9⟩, k2, k3, k4, k5, k10, k11⟩ := unhide HKP
              obtain ⟨p0, p1, p2⟩ := unhide P0
              obtain ⟨r0, r1, r2⟩ := unhide R0
              obtain ⟨w1, w2⟩ := unhide W1
              obtain ⟨w4, w5, w6⟩ := unhide W2
              go_upto_region 21 with fail
              go_quiet (fail)
              go_wp2_with fail
              rw [unhide HV2]
              refine bodyPost_ret (results_tmp rfl _ _ _) rfl ⟨rfl, below_drewN (unhide HB) _⟩
            · have HV2 : Hid (V = false) := hide (unhide HVA (by rw [hpm]; rfl))
              clear hF hT HN2 hpm hj HVP HVF HVA HNX HPR hfr hto htl hkl i3 i4
              obtain ⟨⟨k1, k6, k7, k8, k9⟩, k2, k3, k4, k5, k10, k11⟩ := unhide HKP
              obtain ⟨p0, p1, p2⟩ := unhide P0
              obtain ⟨r0, r1, r2⟩ := unhide R0
              obtain ⟨w1, w2⟩ := unhide W1
              obtain ⟨w4, w5, w6⟩ := unhide W2
              go_upto_region 21 with fail
              go_quiet (fail)
              go_wp2_with fail
              rw [unhide HV2]
              refine bodyPost_ret (results_tmp rfl _ _ _) rfl ⟨rfl, below_drewN (unhide HB) _⟩
      · rcases kd_cases xn xt with ⟨h1, s1⟩ | ⟨h1, h2, s1, s2, s3⟩ | ⟨h1, h2, s1, s2, s3⟩ | ⟨h1, h2, h3, s1, s2, s3⟩
        · have HV2 : Hid (V = false) := hide (unhide HVP (by unfold plB; simp; omega))
          clear HVP HVF HVA HNX HPR hfr hto htl hkl i3 i4 h1
          go_wp2_with fail
          rw [unhide HV2]
          refine bodyPost_ret (results_tmp rfl _ _ _) rfl ⟨rfl, unhide HB⟩
        · have HV2 : Hid (V = false) := hide (unhide HVF (.inl (by rw [hfr]; simp [frN]; omega)))
          clear HVP HVF HVA HNX HPR hfr hto htl hkl i3 i4 h1 h2
          go_wp2_with fail
          rw [unhide HV2]
          refine bodyPost_ret (results_tmp rfl _ _ _) rfl ⟨rfl, unhide HB⟩
        · have HV2 : Hid (V = false) := hide (unhide HVP (by unfold plB; simp [h2]))
          rw [← hem] at h2
          clear hem hsz
          generalize strOfNums xt = st at *
          clear HVP HVF HVA HNX HPR hfr hto htl hkl i3 i4 h1
          go_wp2_with fail
          rw [unhide HV2]
          refine bodyPost_ret (results_tmp rfl _ _ _) rfl ⟨rfl, unhide HB⟩
        · obtain ⟨m, rfl⟩ : ∃ m : Nat, xn = (m : Int) := ⟨xn.toNat, by omega⟩
          have HPL : Hid (plB ⟨3, (m : Int), xt⟩ = true) := hide (by unfold plB; simp [h3]; omega)
          rw [show frN ⟨3, (m : Int), xt⟩ = m by simp [frN]] at hfr
          rw [show toN ⟨3, (m : Int), xt⟩ = 0 by simp [toN]] at hto
          have W1 := hide (ca_k i3 (by omega) hfr)
          obtain rfl : T' = t := by omega
          have W2 := hide (ca_0 i4)
          rw [← hem] at h3
          clear h1 h2 hem hsz
          by_cases hF : 268435456 < F'
          · have HV2 : Hid (V = false) := hide (unhide HVF (.inl hF))
            obtain ⟨p0, p1, p2⟩ := big_t hF
            clear hF HVP HVF HVA HNX HPR hfr hto htl hkl i3 i4
            obtain ⟨w1, w2, w3⟩ := unhide W1
            obtain ⟨w4, w5⟩ := unhide W2
            go_wp2_with fail
            rw [unhide HV2]
            refine bodyPost_ret (results_tmp rfl _ _ _) rfl ⟨rfl, unhide HB⟩
          by_cases hT : 268435456 < T'
          · have HV2 : Hid (V = false) := hide (unhide HVF (.inr hT))
            obtain ⟨p0, p1, p2⟩ := big_f hF
            obtain ⟨r0, r1, r2⟩ := big_t hT
            clear hF hT HVP HVF HVA HNX HPR hfr hto htl hkl i3 i4
            obtain ⟨w1, w2, w3⟩ := unhide W1
            obtain ⟨w4, w5⟩ := unhide W2
            go_wp2_with fail
            rw [unhide HV2]
            refine bodyPost_ret (results_tmp rfl _ _ _) rfl ⟨rfl, unhide HB⟩
          have HN2 := hide (unhide HNX F' T' rfl rfl (Nat.not_lt.1 hF) (Nat.not_lt.1 hT) (unhide HPL))
          have P0 := hide (big_f hF)
          have R0 := hide (big_f hT)
          rcases unhide HPR with ⟨hk0, hpm⟩ | ⟨j, p, hj, hjl, cp, hpm, hp⟩
          · subst hk0
            simp only [Nat.zero_mul, Nat.add_zero] at c0 c1 c2
            have HN3 := hide (unhide HN2 (by rw [hpm]; rfl) (by decide))
            clear hF hT HN2 hpm HVP HVF HVA HNX HPR hfr hto htl hkl i3 i4
            obtain ⟨p0, p1, p2⟩ := unhide P0
            obtain ⟨r0, r1, r2⟩ := unhide R0
            obtain ⟨w1, w2, w3⟩ := unhide W1
            obtain ⟨w4, w5⟩ := unhide W2
            go_upto_region 21 with fail
            go_quiet (fail)
            go_wp2_with fail
            go_roundw
            case rel => exact ⟨⟨_, rfl⟩, ⟨0 + 1, F', T', by go_num, by first | rfl | go_num, by first | rfl | go_num, hlt, HN3⟩, hide (below_drewN (unhide HB) _)⟩
            case measure => simp [intOf]; omega
          · have HKP := hide (k_pos hj hkl hlt)
            rcases hp with rfl | rfl | rfl
            · have HN3 := hide (unhide HN2 (by rw [hpm]; rfl) (by decide))
              clear hF hT HN2 hpm hj HVP HVF HVA HNX HPR hfr hto htl hkl i3 i4
              obtain ⟨⟨k1, k6, k7, k8, k9⟩, k2, k3, k4, k5, k10, k11⟩ := unhide HKP
              obtain ⟨p0, p1, p2⟩ := unhide P0
              obtain ⟨r0, r1, r2⟩ := unhide R0
              obtain ⟨w1, w2, w3⟩ := unhide W1
              obtain ⟨w4, w5⟩ := unhide W2
              go_upto_region 21 with fail
              go_quiet (fail)
              go_wp2_with fail
              go_roundw
              case rel => exact ⟨⟨_, rfl⟩, ⟨k + 1, F', T', by go_num, by first | rfl | go_num, by first | rfl | go_num, hlt, HN3⟩, hide (below_drewN (unhide HB) _)⟩
              case measure => simp [intOf]; omega
            · have HN3 := hide (unhide HN2 (by rw [hpm]; rfl) (by decide))
              clear hF hT HN2 hpm hj HVP HVF HVA HNX HPR hfr hto htl hkl i3 i4
              obtain ⟨⟨k1, k6, k7, k8, k9⟩, k2, k3, k4, k5, k10, k11⟩ := unhide HKP
              obtain ⟨p0, p1, p2⟩ := unhide P0
              obtain ⟨r0, r1, r2⟩ := unhide R0
              obtain ⟨w1, w2, w3⟩ := unhide W1
              obtain ⟨w4, w5⟩ := unhide W2
              go_upto_region 21 with fail
              go_quiet (fail)
              go_wp2_with fail
              go_roundw
              case rel => exact ⟨⟨_, rfl⟩, ⟨k + 1, F', T', by go_num, by first | rfl | go_num, by first | rfl | go_num, hlt, HN3⟩, hide (below_drewN (unhide HB) _)⟩
              case measure => simp [intOf]; omega
            · have HV2 : Hid (V = false) := hide (unhide HVA (by rw [hpm]; rfl))
              clear hF hT HN2 hpm hj HVP HVF HVA HNX HPR hfr hto htl hkl i3 i4
              obtain ⟨⟨k1, k6, k7, k8, k9⟩, k2, k3, k4, k5, k10, k11⟩ := unhide HKP
              obtain ⟨p0, p1, p2⟩ := unhide P0
              obtain ⟨r0, r1, r2⟩ := unhide R0
              obtain ⟨w1, w2, w3⟩ := unhide W1
              obtain ⟨w4, w5⟩ := unhide W2
              go_upto_region 21 with fail
              go_quiet (fail)
              go_wp2_with fail
              rw [unhide HV2]
              refine bodyPost_ret (results_tmp rfl _ _ _) rfl ⟨rfl, below_drewN (unhide HB) _⟩
      · have HV2 : Hid (V = false) := hide (unhide HVA (by rw [s4]; simp [apB]))
        clear HVP HVF HVA HNX HPR hfr hto htl hkl i3 i4 s4
        go_wp2_with fail
        rw [unhide HV2]
        refine bodyPost_ret (results_tmp rfl _ _ _) rfl ⟨rfl, unhide HB⟩
    · obtain rfl : k = d.length := by omega
      have t1 : decide ((d.length : Int) < (d.length : Int)) = false := decide_eq_false (by omega)
      have HV2 : Hid (V = true) := hide (by
        obtain ⟨i1, i2, i3, i4, i5, i6, i7⟩ := unhide HI
        rw [List.take_length] at i1 i2 i5
        rw [List.drop_length] at i6
        rw [unhide HV, valB, i5, i6, show lonB d = false from decide_eq_false (by omega)]
        rfl)
      clear HI hk
      go_wp2_with fail
      rw [unhide HV2]
      refine bodyPost_ret (results_tmp rfl _ _ _) rfl ⟨rfl, unhide HB⟩

end Go.Proofs.Ytifpjdodignflaa
end

section
namespace Go.Proofs.Ytifpjdodignflaa
open Go.ChangeShapes Go.WideShapes Go.ChangeAt Go.RowKit
attribute [local go_sem] Oper.semAt_some

theorem apL_kinds : ∀ (m : Int) (d : List Dop), apL m d = true → ∀ o ∈ d, o.k = 1 ∨ o.k = 2 ∨ o.k = 3
  | _, [], _, o, ho => by cases ho
  | m, x :: r, h, o, ho => by
    simp only [apL, Bool.and_eq_true] at h
    rcases List.mem_cons.1 ho with rfl | ho
    · rcases kind_cases o.k with h1 | h1 | h1 | ⟨_, _, _, _, _, _, h1⟩
      · exact .inl h1
      · exact .inr (.inl h1)
      · exact .inr (.inr h1)
      · rw [h1] at h; simp [apB] at h
    · exact apL_kinds _ r h.2 o ho
theorem valB_k {d : List Dop} (h : valB d = true) : ∀ o ∈ d, o.k = 1 ∨ o.k = 2 ∨ o.k = 3 := by
  unfold valB at h
  simp only [Bool.and_eq_true] at h
  exact apL_kinds 7 d h.2.1
/-- what a valid delta's operations are -/
theorem valB_op {d : List Dop} (h : valB d = true) {o : Dop} (ho : o ∈ d) : ((o.k = 1 ∨ o.k = 3) ∧ 1 ≤ o.n ∧ o.t = []) ∨ (o.k = 2 ∧ o.n = 0 ∧ o.t ≠ []) := by
  have hk := valB_k h o ho
  unfold valB at h
  simp only [Bool.and_eq_true] at h
  have hp := List.all_eq_true.1 h.1 o ho
  unfold plB at hp
  rcases hk with h1 | h1 | h1
  · simp [h1] at hp; exact .inl ⟨.inl h1, hp.2, hp.1⟩
  · simp [h1] at hp; exact .inr ⟨h1, hp.2, hp.1⟩
  · simp [h1] at hp; exact .inl ⟨.inr h1, hp.2, hp.1⟩
structure LeI (d : List Dop) (k f t : Nat) : Prop where
  ef : f = frD (d.take k)
  et : t = toD (d.take k)
  z : f ≤ 268435456 ∧ t ≤ 268435456
set_option maxRecDepth 100000 in
set_option maxHeartbeats 4000000 in
theorem RLens_at (a : Option Addr) (c : Nat) (d : List Dop) (w : World) (h : IsO w a d) (hl : d.length ≤ 4611686018427387904) (hv : valB d = true) :
    Calls Try.prog 44 #[.slice a d.length c] w fun y w' => y = .returned (.tuple #[.int .i64 (frD d : Int), .int .i64 (toD d : Int)]) ∧ Below w.heap.size w w' := by
  have HO := hide fun (X : World) (hx : Below w.heap.size w X) => h.below hx (Nat.le_refl _)
  have HV := hide hv
  obtain ⟨L, E, hL, hE⟩ : ∃ L E, L = frD d ∧ E = toD d := ⟨_, _, rfl, rfl⟩
  rw [← hL, ← hE]
  have HLE := hide (And.intro hL hE)
  clear h hv hL hE
  go_enter Try.func44, Try.ntmps44
  go_wp2_with fail
  go_loopw [4, 5, 6, 17] (fun v4 v5 v6 v17 wx => (∃ z, v17 = z) ∧ (∃ (k f t : Nat), v6 = .int .i64 (k : Int) ∧ v4 = .int .i64 (f : Int) ∧ v5 = .int .i64 (t : Int) ∧ k ≤ d.length ∧ Hid (LeI d k f t)) ∧ Hid (Below w.heap.size w wx)) (fun _ _ v6 _ _ => d.length - (intOf v6).toNat)
  case atStart => exact ⟨⟨_, rfl⟩, ⟨0, 0, 0, rfl, rfl, rfl, Nat.zero_le _, hide ⟨rfl, rfl, by omega⟩⟩, hide (Below.refl _ _)⟩
  case round =>
    obtain ⟨⟨z1, rfl⟩, ⟨k, f, t, rfl, rfl, rfl, hk, HI⟩, HB⟩ := hrel
    by_cases hlt : k < d.length
    · have t1 : decide ((k : Int) < (d.length : Int)) = true := decide_eq_true (by omega)
      obtain ⟨g, off, rfl, hg, c0, c1, c2⟩ := (unhide HO wr (unhide HB)).three hlt
      have hx := valB_op (unhide HV) (getD_memD hlt)
      have hz := (unhide HI).z
      have hz2 := (valB_nn (unhide HV)).2
      have hfr := frD_take d hlt
      have hto := toD_take d hlt
      have hle := frD_le d (k + 1)
      rw [← (unhide HI).ef] at hfr
      rw [← (unhide HI).et] at hto
      have HNX : Hid (∀ F T : Nat, F = frD (d.take (k + 1)) → T = toD (d.take (k + 1)) → F ≤ 268435456 ∧ T ≤ 268435456 → LeI d (k + 1) F T) := hide fun F T h1 h2 h3 => ⟨h1, h2, h3⟩
      clear HI hk
      generalize frD (d.take (k + 1)) = F' at *
      generalize toD (d.take (k + 1)) = T' at *
      generalize d.getD k opZ = x at *
      obtain ⟨xk, xn, xt⟩ := x
      dsimp only at c0 c1 c2 hx
      have hsz := strOfNums_size xt
      have HN2 := hide (unhide HNX F' T' rfl rfl (by omega))
      rcases hx with ⟨rfl | rfl, hn, rfl⟩ | ⟨rfl, rfl, hn⟩
      · obtain ⟨m, rfl⟩ : ∃ m : Nat, xn = (m : Int) := ⟨xn.toNat, by omega⟩
        rw [show frN ⟨1, (m : Int), []⟩ = m by simp [frN]] at hfr
        rw [show toN ⟨1, (m : Int), []⟩ = m by simp [toN]] at hto
        obtain ⟨w1, w2, w3⟩ := ca_k hz.1 (by omega) hfr
        obtain ⟨w4, w5, w6⟩ := ca_k hz.2 (by omega) hto
        clear hfr hto hz hz2 hle hn HNX hsz
        go_wp2_with fail
        go_roundw
        case rel => exact ⟨⟨_, rfl⟩, ⟨k + 1, F', T', by go_num, by first | rfl | rw [w1], by first | rfl | rw [w1] | rw [w4], hlt, HN2⟩, HB⟩
        case measure => simp [intOf]; omega
      · obtain ⟨m, rfl⟩ : ∃ m : Nat, xn = (m : Int) := ⟨xn.toNat, by omega⟩
        rw [show frN ⟨3, (m : Int), []⟩ = m by simp [frN]] at hfr
        rw [show toN ⟨3, (m : Int), []⟩ = 0 by simp [toN]] at hto
        obtain ⟨w1, w2, w3⟩ := ca_k hz.1 (by omega) hfr
        obtain rfl : T' = t := by omega
        clear hfr hto hz hz2 hle hn HNX hsz
        go_wp2_with fail
        go_roundw
        case rel => exact ⟨⟨_, rfl⟩, ⟨k + 1, F', T', by go_num, by first | rfl | rw [w1], by first | rfl | rw [w1] | rw [w4], hlt, HN2⟩, HB⟩
        case measure => simp [intOf]; omega
      · rw [show frN ⟨2, 0, xt⟩ = 0 by simp [frN]] at hfr
        rw [show toN ⟨2, 0, xt⟩ = xt.length by simp [toN]] at hto
        obtain rfl : F' = f := by omega
        obtain ⟨w1, w2, w3⟩ := ca_k hz.2 (by omega) hto
        clear hfr hto hz hz2 hle hn HNX
        go_wp2_with fail
        go_roundw
        case rel => exact ⟨⟨_, rfl⟩, ⟨k + 1, F', T', by go_num, by first | rfl | rw [w1], by first | rfl | rw [w1] | rw [w4], hlt, HN2⟩, HB⟩
        case measure => simp [intOf]; omega
    · obtain rfl : k = d.length := by omega
      have t1 : decide ((d.length : Int) < (d.length : Int)) = false := decide_eq_false (by omega)
      obtain ⟨rfl, rfl⟩ : f = L ∧ t = E := by
        have h1 := (unhide HI).ef
        have h2 := (unhide HI).et
        rw [List.take_length] at h1 h2
        exact ⟨h1.trans (unhide HLE).1.symm, h2.trans (unhide HLE).2.symm⟩
      clear HI hk
      go_wp2_with fail
      refine bodyPost_ret (results_tmp2 rfl _ _ _) rfl ⟨rfl, unhide HB⟩

end Go.Proofs.Ytifpjdodignflaa
end
