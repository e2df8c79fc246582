/- Layer 14: rows of lists; the document's SameAll (written by wip/tools/sge.py). · Layer 14: chains in plain words: both ways round meet (ShiftChains). -/
import Derived.Test.YthikhnlgpljbpaaMg35

section
namespace Go.Proofs.Ythikhnlgpljbpaa
open Go.ChangeShapes Go.WideShapes Go.ChangeAt Go.RowKit
attribute [local go_sem] Oper.semAt_some

theorem ch_isDs {w X : World} {v1 v8 : Value} {b : List Dop} {L : List (List Dop)} (h : ChM w X v1 v8 b L) (hne : L ≠ []) (ht : ∀ d ∈ L, ∀ o ∈ d, o.t.length ≤ 140737488355328) : ∃ G c ds, v8 = .slice (some ⟨G, 0, none⟩) L.length c ∧ ds.map (·.d) = L ∧ IsDs X X G ds := by
  obtain ⟨vs, h1, h2, h3⟩ := h.l
  have hpos : 0 < L.length := List.length_pos_iff.2 hne
  obtain ⟨G, c, hv, hG, hlt⟩ := h1.form hpos
  have each : ∀ i, i < L.length → ∃ x : Dl, vs.getD i undef = .slice x.a x.d.length x.c ∧ x.d = L.getD i [] ∧ IsO X x.a x.d := fun i hi => by
    obtain ⟨a, c, e1, e2, _⟩ := own_isOC (h3 i hi)
    exact ⟨⟨a, c, L.getD i []⟩, e1, rfl, e2⟩
  let f : Nat → Dl := fun i => if hi : i < L.length then Classical.choose (each i hi) else dlZ
  have hf : ∀ i, i < L.length → vs.getD i undef = .slice (f i).a (f i).d.length (f i).c ∧ (f i).d = L.getD i [] ∧ IsO X (f i).a (f i).d := fun i hi => by
    have := Classical.choose_spec (each i hi)
    simp only [f, hi, dif_pos]
    exact this
  have hget : ∀ i, i < L.length → ((List.range L.length).map f).getD i dlZ = f i := fun i hi => by simp [List.getD, hi]
  refine ⟨G, c, (List.range L.length).map f, hv, ?_, ⟨fun i hi => ?_, fun i hi => ?_, hlt⟩⟩
  · apply List.ext_getElem?
    intro i
    rcases Nat.lt_or_ge i L.length with hi | hi
    · have := (hf i hi).2.1
      simp [hi, this, List.getD]
    · simp [hi]
  · have hi' : i < L.length := by simpa using hi
    rw [hget i hi', ← (hf i hi').1]
    rw [hv] at h1
    have hc := World.ownsRow.cells h1 rfl i (vs.getD i undef) (by simp [List.getD, List.getElem?_eq_getElem (show i < vs.length by omega)])
    rw [Addr.add_lit, Nat.zero_add] at hc
    exact hc
  · have hi' : i < L.length := by simpa using hi
    rw [hget i hi']
    refine ⟨(hf i hi').2.2, ?_⟩
    rw [(hf i hi').2.1]
    refine ht _ ?_
    simp [List.getD, List.getElem?_eq_getElem hi']
set_option maxRecDepth 100000 in
set_option maxHeartbeats 4000000 in
theorem RSameAll_at (G cc G' cc' : Nat) (ds ds' : List Dl) (w X : World) (h : IsDs w X G ds) (h' : IsDs w X G' ds') (hd : Below w.heap.size w X) (he : ds.map (·.d) = ds'.map (·.d)) (hl : ds.length ≤ 1099511627776) (hb : ∀ x ∈ ds, x.d.length ≤ 4611686018427387904 ∧ ∀ o ∈ x.d, TbD o) :
    Calls Try.prog 16 #[.slice (some ⟨G, 0, none⟩) ds.length cc, .slice (some ⟨G', 0, none⟩) ds'.length cc'] X fun y X' => y = .returned (.bool true) ∧ Below X.heap.size X X' := by
  have hlen : ds.length = ds'.length := by have := congrArg List.length he; simpa using this
  have HH := hide fun (Y : World) (hY : Below X.heap.size X Y) => h.on hY
  have HH' := hide fun (Y : World) (hY : Below X.heap.size X Y) => h'.on hY
  have HW := hide fun (Y : World) (hY : Below X.heap.size X Y) => hd.trans (hY.mono hd.size)
  have HE : Hid (∀ k, k < ds.length → (ds'.getD k dlZ).d = (ds.getD k dlZ).d) := hide fun k hk => by
    have h1 := congrArg (fun l => l[k]?) he
    simp [List.getElem?_eq_getElem hk, List.getElem?_eq_getElem (show k < ds'.length by omega)] at h1
    simp [List.getD, List.getElem?_eq_getElem hk, List.getElem?_eq_getElem (show k < ds'.length by omega), h1]
  have HB := hide hb
  rw [← hlen]
  have HLN := hide hlen
  clear h h' hd he hb hlen
  go_enter Try.func16, Try.ntmps16
  go_wp2_with fail
  go_loopw [5] (fun v5 wx => ∃ k : Nat, v5 = .int .i64 (k : Int) ∧ k ≤ ds.length ∧ Hid (Below X.heap.size X wx)) (fun v5 _ => ds.length - (intOf v5).toNat)
  case atStart => exact ⟨0, rfl, Nat.zero_le _, hide (Below.refl _ _)⟩
  case round =>
    obtain ⟨k, rfl, hk, HI⟩ := hrel
    by_cases hlt : k < ds.length
    · have s1 : decide ((k : Int) < (ds.length : Int)) = true := decide_eq_true (by omega)
      have s1' : (k : Int) < (ds.length : Int) := by omega
      have hlt' : k < ds'.length := by rw [← unhide HLN]; exact hlt
      have HSQ := hide fun (Y : World) (hY : Below X.heap.size X Y) => And.intro ((unhide HH Y hY).c k hlt) ((unhide HH' Y hY).c k hlt')
      have hBD := (unhide HI).drew
      have hO := ((unhide HH wr.drew hBD).o k hlt).1.below (unhide HW wr.drew hBD) (Nat.le_refl _)
      have hO' := ((unhide HH' wr.drew hBD).o k hlt').1.below (unhide HW wr.drew hBD) (Nat.le_refl _)
      have hdd := unhide HE k hlt
      obtain ⟨b1, b2⟩ := unhide HB _ (mem_dl hlt)
      rw [hdd] at hO' HSQ
      have HC1 := hide (RSame14_at (ds.getD k dlZ).a (ds.getD k dlZ).c (ds.getD k dlZ).d (ds'.getD k dlZ).a (ds'.getD k dlZ).c (ds.getD k dlZ).d wr.drew hO hO' b1 b1 b2 b2)
      simp only [decide_true] at HC1
      have HS0 := hide (unhide HSQ wr.drew hBD)
      have HBD := hide hBD
      clear hO hO' hdd b1 b2 hlt' hBD HI hk
      generalize ds.getD k dlZ = x at *
      generalize ds'.getD k dlZ = y at *
      obtain ⟨xa, xc, d⟩ := x
      obtain ⟨ya, yc, d2⟩ := y
      dsimp only at HSQ HC1 HS0
      go_upto_region 6 with fail
      refine regionL (S := fun w' => w'.cell? ⟨G, k, none⟩ = some (.slice xa d.length xc) ∧ w'.cell? ⟨G', k, none⟩ = some (.slice ya d.length yc)) (fun _ => false) (by kernel_rfl) ?_
      refine anyL_take (i := 0) (v := ?vrz0) rfl (by kernel_rfl) (by kernel_rfl) (by kernel_rfl) (by kernel_rfl) (fun _ _ _ h => h) (Or.inl ⟨by rfl, ?hrz0⟩) (unhide HS0) ?_
      case hrz0 => (intro w hSw; (try dsimp only at hSw); go_simp) <;> with_reducible rfl
      simp only [Act.put, List.getElem_toArray, List.getElem_cons_zero, List.setIfInBounds_toArray, List.set_cons_zero, List.set_cons_succ]
      refine anyL_take (i := 1) (v := ?vrz1) rfl (by kernel_rfl) (by kernel_rfl) (by kernel_rfl) (by kernel_rfl) (fun _ _ _ h => h) (Or.inl ⟨by rfl, ?hrz1⟩) (unhide HS0) ?_
      case hrz1 => (intro w hSw; (try dsimp only at hSw); go_simp) <;> with_reducible rfl
      simp only [Act.put, List.getElem_toArray, List.getElem_cons_zero, List.getElem_cons_succ, List.setIfInBounds_toArray, List.set_cons_zero, List.set_cons_succ]
      refine anyL_take (i := 2) (v := ?vrz2) rfl (by kernel_rfl) (by kernel_rfl) (by kernel_rfl) (by kernel_rfl) (fun _ _ _ h => h) (Or.inl ⟨by rfl, ?hrz2⟩) (unhide HS0) ?_
      case hrz2 => (intro w hSw; (try dsimp only at hSw); go_simp) <;> with_reducible rfl
      simp only [Act.put, List.getElem_toArray, List.getElem_cons_zero, List.getElem_cons_succ, List.setIfInBounds_toArray, List.set_cons_zero, List.set_cons_succ]
      refine anyL_take (i := 3) (v := ?vrz3) rfl (by kernel_rfl) (by kernel_rfl) (by kernel_rfl) (by kernel_rfl) (fun _ _ _ h => h) (Or.inl ⟨by rfl, ?hrz3⟩) (unhide HS0) ?_
      case hrz3 => (intro w hSw; (try dsimp only at hSw); go_simp) <;> with_reducible rfl
      simp only [Act.put, List.getElem_toArray, List.getElem_cons_zero, List.getElem_cons_succ, List.setIfInBounds_toArray, List.set_cons_zero, List.set_cons_succ]
      refine anyL_take (i := 4) (v := ?vrz4) rfl (by kernel_rfl) (by kernel_rfl) (by kernel_rfl) (by kernel_rfl) (fun _ _ _ h => h) (Or.inl ⟨by rfl, ?hrz4⟩) (unhide HS0) ?_
      case hrz4 => (intro w hSw; (try dsimp only at hSw); go_simp) <;> with_reducible rfl
      simp only [Act.put, List.getElem_toArray, List.getElem_cons_zero, List.getElem_cons_succ, List.setIfInBounds_toArray, List.set_cons_zero, List.set_cons_succ]
      refine anyL_take (i := 5) (v := ?vrz5) rfl (by kernel_rfl) (by kernel_rfl) (by kernel_rfl) (by kernel_rfl) (fun _ _ _ h => h) (Or.inl ⟨by rfl, ?hrz5⟩) (unhide HS0) ?_
      case hrz5 => (intro w hSw; (try dsimp only at hSw); go_simp) <;> with_reducible rfl
      simp only [Act.put, List.getElem_toArray, List.getElem_cons_zero, List.getElem_cons_succ, List.setIfInBounds_toArray, List.set_cons_zero, List.set_cons_succ]
      refine anyL_take (i := 6) (v := ?vrz6) rfl (by kernel_rfl) (by kernel_rfl) (by kernel_rfl) (by kernel_rfl) (fun _ _ _ h => h) (Or.inl ⟨by rfl, ?hrz6⟩) (unhide HS0) ?_
      case hrz6 => (intro w hSw; (try dsimp only at hSw); go_simp) <;> with_reducible rfl
      simp only [Act.put, List.getElem_toArray, List.getElem_cons_zero, List.getElem_cons_succ, List.setIfInBounds_toArray, List.set_cons_zero, List.set_cons_succ]
      refine anyL_take (i := 7) (v := ?vrz7) rfl (by kernel_rfl) (by kernel_rfl) (by kernel_rfl) (by kernel_rfl) (fun _ _ _ h => h) (Or.inl ⟨by rfl, ?hrz7⟩) (unhide HS0) ?_
      case hrz7 => (intro w hSw; (try dsimp only at hSw); go_simp) <;> with_reducible rfl
      simp only [Act.put, List.getElem_toArray, List.getElem_cons_zero, List.getElem_cons_succ, List.setIfInBounds_toArray, List.set_cons_zero, List.set_cons_succ]
      refine anyL_ready (rs := [8]) (by kernel_rfl) (by simp) ?_
      refine AllL.cons rfl (fun K hK => ?_) AllL.nil
      go_simp
      refine (unhide HC1).mono ?_
      rintro yy v1 ⟨rfl, x1⟩
      have HI1 := hide ((unhide HBD).trans (x1.mono (unhide HBD).size))
      have HS1 := hide (unhide HSQ v1 (unhide HI1))
      clear HC1 x1
      refine unhide hK _ _ (fun _ => unhide HS1) ?_
      clear hK K
      refine anyL_take (i := 9) (v := ?vrz8) rfl (by kernel_rfl) (by kernel_rfl) (by kernel_rfl) (by kernel_rfl) (fun _ _ _ h => h) (Or.inl ⟨by rfl, ?hrz8⟩) (unhide HS1) ?_
      case hrz8 => (intro w hSw; (try dsimp only at hSw); go_simp) <;> with_reducible rfl
      simp only [Act.put, List.getElem_toArray, List.getElem_cons_zero, List.getElem_cons_succ, List.setIfInBounds_toArray, List.set_cons_zero, List.set_cons_succ]
      refine anyL_done (by kernel_rfl) ?_ _
      clear HS0 HSQ HBD
      go_wp2_with fail
      go_roundw
      case rel => exact ⟨k + 1, by go_num, hlt, HI1⟩
      case measure => simp [intOf]; omega
    · obtain rfl : k = ds.length := by omega
      have s1 : decide ((ds.length : Int) < (ds.length : Int)) = false := by simp
      clear hk hlt
      go_wp2_with fail
      refine bodyPost_ret (results_tmp rfl _ _ _) rfl ⟨rfl, unhide HI⟩

end Go.Proofs.Ythikhnlgpljbpaa
end

section
namespace Go.Proofs.Ythikhnlgpljbpaa
open Go.ChangeShapes Go.WideShapes Go.ChangeAt Go.RowKit

theorem two_asc {P Q R : List Dop} (hP : valB P = true) (hQ : valB Q = true) (hR : valB R = true) (h1 : toD P = frD Q) (h2 : toD Q = frD R) : cmD (cmD P Q) R = cmD P (cmD Q R) := by
  have t1 := two_ok hP hQ h1
  have t2 := two_ok hQ hR h2
  have t3 := two_ok t1.v hR (by rw [t1.t]; exact h2)
  have t4 := two_ok hP t2.v (by rw [t2.f]; exact h1)
  rw [t3.d, t4.d]
  refine canA_congr ?_
  rw [t1.a, t2.a]
  have e1 : nfA (cmpA (nfA (cmpA (dA P) (dA Q))) (dA R)) = nfA (cmpA (cmpA (dA P) (dA Q)) (dA R)) := cmp_nf_left _ _
  have e2 : nfA (cmpA (dA P) (nfA (cmpA (dA Q) (dA R)))) = nfA (cmpA (dA P) (cmpA (dA Q) (dA R))) := cmp_nf_right _ _
  rw [e1, e2, cmp_assoc _ _ _ _ (Nat.le_refl _) t1.q t2.q]
/-- what holds between two rounds: all so far is 'one', b behind it is 'bk', and the other way round is 'two' -/
structure ChRd (one bk two : List Dop) : Prop where
  v : valB one = true
  vb : valB bk = true
  q : toD one = frD bk
  m : cmD one bk = two
theorem ChRd.two {one bk two : List Dop} (h : ChRd one bk two) : TwoD one bk ∧ cmE one bk = 0 ∧ cmD one bk = two ∧ valB two = true :=
  have t := two_ok h.v h.vb h.q
  ⟨t, t.e, h.m, by rw [← h.m]; exact t.v⟩
/-- the first delta -/
theorem ch_first {a b : List Dop} (h : boE a b = 0) : ChRd a (boB a b) (cmD b (boA a b)) ∧ cmE b (boA a b) = 0 ∧ valB (boA a b) = true := by
  obtain ⟨o1, o2, eA, eB⟩ := bo_ok h
  obtain ⟨t1, t2, hm⟩ := bo_meet h
  exact ⟨⟨o2.v1, by rw [eB]; exact o2.v, by rw [eB]; exact o2.fr.symm, hm⟩, t2.e, by rw [eA]; exact o1.v⟩
/-- one more -/
theorem ch_next {one bk two a : List Dop} (h : ChRd one bk two) (hE : boE a bk = 0) : ChRd (cmD one a) (boB a bk) (cmD two (boA a bk)) ∧ cmE one a = 0 ∧ cmE two (boA a bk) = 0 ∧ valB (boA a bk) = true := by
  obtain ⟨o1, o2, eA, eB⟩ := bo_ok hE
  obtain ⟨t1, t2, hm⟩ := bo_meet hE
  have vA : valB (boA a bk) = true := by rw [eA]; exact o1.v
  have vB : valB (boB a bk) = true := by rw [eB]; exact o2.v
  have fA : toD bk = frD (boA a bk) := by rw [eA]; exact o1.fr.symm
  have fB : toD a = frD (boB a bk) := by rw [eB]; exact o2.fr.symm
  have fa : toD one = frD a := by rw [h.q]; exact o2.q.symm
  have u1 := two_ok h.v o2.v1 fa
  have u2 := two_ok h.v h.vb h.q
  have u3 := two_ok u2.v vA (by rw [u2.t]; exact fA)
  rw [← h.m]
  refine ⟨⟨u1.v, vB, by rw [u1.t]; exact fB, ?_⟩, u1.e, u3.e, vA⟩
  rw [two_asc h.v o2.v1 vB fa fB, two_asc h.v h.vb vA h.q fA, hm]
/-- a chain that is taken, taken apart -/
theorem ch_cons {a : List Dop} {r : List (List Dop)} {b : List Dop} (h : (chL (a :: r) b).2 = 0) : boE a b = 0 ∧ (chL r (boB a b)).2 = 0 ∧ (chL (a :: r) b).1 = ((chL r (boB a b)).1.1, boA a b :: (chL r (boB a b)).1.2) := by
  simp only [chL] at h ⊢
  split at h
  · rename_i h1
    rw [if_pos h1]
    unfold preL at h ⊢
    by_cases h2 : (chL r (boB a b)).2 = 0
    · rw [if_pos h2]; exact ⟨h1, h2, rfl⟩
    · rw [if_neg h2] at h; exact absurd h h2
  · rename_i h1
    exact absurd h h1
theorem ch_len : ∀ (r : List (List Dop)) (b : List Dop), (chL r b).2 = 0 → (chL r b).1.2.length = r.length
  | [], _, _ => rfl
  | a :: r, b, h => by
    obtain ⟨_, h2, h3⟩ := ch_cons h
    rw [h3]
    simp [ch_len r _ h2]
/-- a chain that is refused answers nothing -/
theorem ch_no : ∀ (r : List (List Dop)) (b : List Dop), (chL r b).2 ≠ 0 → (chL r b).1 = ([], [])
  | [], _, h => absurd rfl h
  | a :: r, b, h => by
    simp only [chL] at h ⊢
    split
    · rename_i h1
      rw [if_pos h1] at h
      have h2 : (chL r (boB a b)).2 ≠ 0 := by
        intro h2
        unfold preL at h
        rw [if_pos h2] at h
        exact h rfl
      unfold preL
      rw [if_neg h2]
      exact ch_no r _ h2
    · rfl
theorem cn_no {ds : List Dl} {e : List Dop} (h : (cnQ ds e).2 ≠ 0) : (cnQ ds e).1 = ([], []) := by
  unfold cnQ at h ⊢
  split
  · rename_i h1
    rw [if_pos h1] at h
    exact ch_no _ _ h
  · rfl
theorem cn_ok {ds : List Dl} {e : List Dop} (h : (cnQ ds e).2 = 0) : lkE ds e = 0 ∧ cnQ ds e = chL (ds.map (·.d)) e := by
  unfold cnQ at h ⊢
  split at h
  · rename_i h1
    exact ⟨h1, by rw [if_pos h1]⟩
  · rename_i h1
    exact absurd h h1

end Go.Proofs.Ythikhnlgpljbpaa
end
