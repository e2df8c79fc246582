/- Layer 16, plain: what ranges cover; ranges of a text; a delta that only keeps. · Layer 16: the document's Same, of lists that are alike. · Layer 16: a script of operations in memory. · Layer 16: the law's fixed fact; RangesNil. -/
import Derived.Test.YtifpjdodignflaaRv41
import Derived.Test.YtifpjdodignflaaRv36
import Derived.Test.YtifpjdodignflaaRv38
import Derived.Test.YtifpjdodignflaaRv21

section
namespace Go.Proofs.Ytifpjdodignflaa
open Go.ChangeShapes Go.WideShapes Go.ChangeAt Go.RowKit

/-- pieces that rise and don't touch, each with a byte -/
structure Pcs (n : Int) (q : List (Int × Int)) : Prop where
  v : ∀ p ∈ q, 0 ≤ p.1 ∧ p.1 < p.2 ∧ p.2 ≤ n
  a : q.Pairwise fun a b => a.2 < b.1
/-- ranges of a text, of which each has a byte -/
def InR (n : Int) (L : List Rg) : Prop := ∀ x ∈ L, (0 ≤ x.lo ∧ x.lo < x.hi ∧ x.hi ≤ n) ∧ (x.st = 1 ∨ x.st = 2) ∧ (x.en = 1 ∨ x.en = 2)
theorem InR.all {n : Int} {L : List Rg} (h : InR n L) (hn : 0 ≤ n) : L.filter (inG 0 n) = L := List.filter_eq_self.2 fun x hx => by
  obtain ⟨⟨h1, h2, h3⟩, _⟩ := h x hx
  unfold inG
  by_cases e : (0 : Int) = n
  · omega
  · rw [if_neg e]
    simp only [Bool.and_eq_true, decide_eq_true_eq]
    omega
theorem InR.put {n : Int} {L : List Rg} (h : InR n L) {x : Rg} (hr : refG n L x = 0) : InR n (putG x L) := by
  intro y hy
  rcases List.mem_cons.1 ((put_perm x L).mem_iff.1 hy) with rfl | hy
  · unfold refG at hr
    split at hr
    · cases hr
    · split at hr
      · cases hr
      · rename_i _ h2
        have h3 : holdB y.st = true := by cases hc : holdB y.st with
          | true => rfl
          | false => exact absurd (.inr (.inr (.inr (.inl hc)))) h2
        have h4 : holdB y.en = true := by cases hc : holdB y.en with
          | true => rfl
          | false => exact absurd (.inr (.inr (.inr (.inr hc)))) h2
        exact ⟨⟨by omega, by omega, by omega⟩, of_decide_eq_true h3, of_decide_eq_true h4⟩
  · exact h y ((del_sub _ _).mem hy)
theorem unl_put {L : List Rg} (h : Unl L) (x : Rg) : Unl (putG x L) := by
  refine Unl.perm ?_ (put_perm x L).symm
  unfold Unl
  simp only [List.map_cons, List.nodup_cons]
  refine ⟨fun hm => ?_, del_unl h⟩
  obtain ⟨y, hy, e⟩ := List.mem_map.1 hm
  exact del_names h y hy e
theorem put_many {n : Int} {L : List Rg} (hL : L.length ≤ 1024) {x : Rg} (hr : refG n L x = 0) : (putG x L).length ≤ 1024 := by
  have h1 := (put_perm x L).length_eq
  cases hg : getG x.n L with
  | none =>
    rw [del_no hg, List.length_cons] at h1
    unfold refG at hr
    split at hr
    · cases hr
    · split at hr
      · cases hr
      · split at hr
        · cases hr
        · rename_i h2
          rw [hg] at h2
          have h3 : ¬ 1024 ≤ L.length := fun hc => h2 ⟨rfl, hc⟩
          omega
  | some y =>
    have h2 := (del_perm hg).length_eq
    rw [List.length_cons] at h1 h2
    omega
theorem srt_of {E : List Rg} (hu : Unl E) (hs : E.Pairwise fun a b => ltG b a = false) : Srt E := by
  unfold Unl at hu
  rw [List.nodup_iff_pairwise_ne, List.pairwise_map] at hu
  exact (hs.and hu).imp fun ⟨h1, h2⟩ => ltG_tri (Ne.symm h2) h1
/-- two lists of the same ranges in order are one -/
theorem two_one {L S E1 E2 : List Rg} (hu : Unl L) (hS : S.Perm L) (h1 : E1.Perm S) (s1 : E1.Pairwise fun a b => ltG b a = false) (h2 : E2.Perm L) (s2 : E2.Pairwise fun a b => ltG b a = false) : E1 = E2 :=
  srt_one ((h1.trans hS).trans h2.symm) (srt_of (hu.perm (h1.trans hS).symm) s1) (srt_of (hu.perm h2.symm) s2)
theorem cov_step {n : Int} {q : List (Int × Int)} {x : Rg} (h : Pcs n q) (hx : 0 ≤ x.lo ∧ x.lo < x.hi ∧ x.hi ≤ n) (hl : ∀ p ∈ q, p.1 ≤ x.lo) :
    Pcs n (covS q x) ∧ (∀ p ∈ covS q x, p.1 ≤ x.lo) ∧ ∀ z : Int, (∃ p ∈ covS q x, p.1 ≤ z ∧ z < p.2) ↔ (∃ p ∈ q, p.1 ≤ z ∧ z < p.2) ∨ (x.lo ≤ z ∧ z < x.hi) := by
  by_cases hq : q = []
  · subst hq
    rw [covS_nil]
    refine ⟨⟨fun p hp => ?_, List.pairwise_singleton _ _⟩, fun p hp => ?_, fun z => ?_⟩
    · simp only [List.mem_singleton] at hp; subst hp; exact hx
    · simp only [List.mem_singleton] at hp; subst hp; exact Int.le_refl _
    · simp
  · obtain ⟨e, ⟨u, v⟩, rfl⟩ : ∃ e p, q = e ++ [p] := ⟨q.dropLast, q.getLast hq, (List.dropLast_concat_getLast hq).symm⟩
    obtain ⟨ha1, ha2, ha3⟩ := List.pairwise_append.1 h.a
    have huv := h.v (u, v) (by simp)
    have hul := hl (u, v) (by simp)
    dsimp only at huv hul
    rw [covS_snoc]
    split
    · rename_i hc
      refine ⟨⟨fun p hp => ?_, ?_⟩, fun p hp => ?_, fun z => ?_⟩
      · rcases List.mem_append.1 hp with hp | hp
        · exact h.v p hp
        · simp only [List.mem_singleton] at hp; subst hp; exact hx
      · refine List.pairwise_append.2 ⟨h.a, List.pairwise_singleton _ _, fun a ha b hb => ?_⟩
        simp only [List.mem_singleton] at hb
        subst hb
        rcases List.mem_append.1 ha with ha | ha
        · have h1 := ha3 a ha (u, v) (by simp)
          dsimp only at h1 ⊢
          omega
        · simp only [List.mem_singleton] at ha; subst ha; exact hc
      · rcases List.mem_append.1 hp with hp | hp
        · exact hl p hp
        · simp only [List.mem_singleton] at hp; subst hp; exact Int.le_refl _
      · constructor
        · rintro ⟨p, hp, h1⟩
          rcases List.mem_append.1 hp with hp | hp
          · exact .inl ⟨p, hp, h1⟩
          · simp only [List.mem_singleton] at hp; subst hp; exact .inr h1
        · rintro (⟨p, hp, h1⟩ | h1)
          · exact ⟨p, List.mem_append_left _ hp, h1⟩
          · exact ⟨(x.lo, x.hi), by simp, h1⟩
    · rename_i hc
      have hm1 : v ≤ max v x.hi := Int.le_max_left _ _
      have hm2 : x.hi ≤ max v x.hi := Int.le_max_right _ _
      have hm3 : max v x.hi = v ∨ max v x.hi = x.hi := by omega
      refine ⟨⟨fun p hp => ?_, ?_⟩, fun p hp => ?_, fun z => ?_⟩
      · rcases List.mem_append.1 hp with hp | hp
        · exact h.v p (List.mem_append_left _ hp)
        · simp only [List.mem_singleton] at hp; subst hp
          dsimp only
          omega
      · refine List.pairwise_append.2 ⟨ha1, List.pairwise_singleton _ _, fun a ha b hb => ?_⟩
        simp only [List.mem_singleton] at hb
        subst hb
        exact ha3 a ha (u, v) (by simp)
      · rcases List.mem_append.1 hp with hp | hp
        · exact hl p (List.mem_append_left _ hp)
        · simp only [List.mem_singleton] at hp; subst hp; exact hul
      · constructor
        · rintro ⟨p, hp, h1⟩
          rcases List.mem_append.1 hp with hp | hp
          · exact .inl ⟨p, List.mem_append_left _ hp, h1⟩
          · simp only [List.mem_singleton] at hp; subst hp
            dsimp only at h1
            by_cases hz : z < v
            · exact .inl ⟨(u, v), by simp, by dsimp only; omega⟩
            · exact .inr (by omega)
        · rintro (⟨p, hp, h1⟩ | h1)
          · rcases List.mem_append.1 hp with hp | hp
            · exact ⟨p, List.mem_append_left _ hp, h1⟩
            · simp only [List.mem_singleton] at hp; subst hp
              exact ⟨(u, max v x.hi), by simp, by dsimp only at h1 ⊢; omega⟩
          · exact ⟨(u, max v x.hi), by simp, by dsimp only; omega⟩
theorem cov_all {n : Int} : ∀ (E : List Rg) (q : List (Int × Int)), Pcs n q → (∀ x ∈ E, 0 ≤ x.lo ∧ x.lo < x.hi ∧ x.hi ≤ n) → (∀ x ∈ E, ∀ p ∈ q, p.1 ≤ x.lo) → (E.Pairwise fun a b => a.lo ≤ b.lo) →
    Pcs n (E.foldl covS q) ∧ ∀ z : Int, (∃ p ∈ E.foldl covS q, p.1 ≤ z ∧ z < p.2) ↔ (∃ p ∈ q, p.1 ≤ z ∧ z < p.2) ∨ ∃ x ∈ E, x.lo ≤ z ∧ z < x.hi
  | [], q, h, _, _, _ => ⟨h, fun z => by simp⟩
  | x :: E, q, h, hE, hl, hs => by
    obtain ⟨h1, h2, h3⟩ := cov_step h (hE x (by simp)) (hl x (by simp))
    obtain ⟨hs1, hs2⟩ := List.pairwise_cons.1 hs
    obtain ⟨k1, k2⟩ := cov_all E (covS q x) h1 (fun y hy => hE y (by simp [hy])) (fun y hy p hp => Int.le_trans (h2 p hp) (hs1 y hy)) hs2
    refine ⟨k1, fun z => ?_⟩
    rw [List.foldl_cons, k2 z, h3 z]
    constructor
    · rintro ((h | h) | ⟨y, hy, h⟩)
      · exact .inl h
      · exact .inr ⟨x, by simp, h⟩
      · exact .inr ⟨y, by simp [hy], h⟩
    · rintro (h | ⟨y, hy, h⟩)
      · exact .inl (.inl h)
      · rcases List.mem_cons.1 hy with rfl | hy
        · exact .inl (.inr h)
        · exact .inr ⟨y, hy, h⟩
/-- what is covered -/
theorem cov_is {n : Int} {L E : List Rg} (hL : InR n L) (hp : E.Perm L) (hs : E.Pairwise fun a b => ltG b a = false) :
    Pcs n (covL E) ∧ ∀ z : Int, (∃ p ∈ covL E, p.1 ≤ z ∧ z < p.2) ↔ L.filter (inG z (z + 1)) ≠ [] := by
  obtain ⟨h1, h2⟩ := cov_all (n := n) E [] ⟨by simp, List.Pairwise.nil⟩ (fun x hx => (hL x (hp.mem_iff.1 hx)).1) (by simp) (hs.imp fun {a b} h => by
    rcases (ltG_not b a).1 h with h | ⟨h, _⟩ <;> omega)
  refine ⟨h1, fun z => ?_⟩
  unfold covL
  rw [h2 z]
  have hf : L.filter (inG z (z + 1)) ≠ [] ↔ ∃ x ∈ L, inG z (z + 1) x = true := by
    rw [ne_eq, List.filter_eq_nil_iff]
    constructor
    · intro h
      refine Classical.byContradiction fun hc => h fun x hx hi => hc ⟨x, hx, hi⟩
    · rintro ⟨x, hx, hi⟩ h
      exact h x hx hi
  rw [hf]
  have hi : ∀ x : Rg, inG z (z + 1) x = true ↔ x.lo ≤ z ∧ z < x.hi := fun x => by
    unfold inG
    rw [if_neg (by omega)]
    simp only [Bool.and_eq_true, decide_eq_true_eq]
    omega
  constructor
  · rintro (⟨p, hp, _⟩ | ⟨x, hx, h⟩)
    · simp at hp
    · exact ⟨x, hp.mem_iff.1 hx, (hi x).2 h⟩
  · rintro ⟨x, hx, h⟩
    exact .inr ⟨x, hp.mem_iff.2 hx, (hi x).1 h⟩
/-- a piece's number, and its neighbour's -/
theorem Pcs.next {n : Int} {q : List (Int × Int)} (h : Pcs n q) {k : Nat} (hk : k + 1 < q.length) : (q.getD k (0, 0)).2 < (q.getD (k + 1) (0, 0)).1 := by
  have := (List.pairwise_iff_getElem.1 h.a) k (k + 1) (by omega) hk (by omega)
  simpa [List.getD, hk, show k < q.length by omega] using this
theorem Pcs.at {n : Int} {q : List (Int × Int)} (h : Pcs n q) {k : Nat} (hk : k < q.length) : 0 ≤ (q.getD k (0, 0)).1 ∧ (q.getD k (0, 0)).1 < (q.getD k (0, 0)).2 ∧ (q.getD k (0, 0)).2 ≤ n := by
  refine h.v _ ?_
  rw [List.getD_eq_getElem?_getD, List.getElem?_eq_getElem hk]; exact List.getElem_mem hk
/-- is a byte in a piece? the first piece that ends behind it tells -/
theorem Pcs.tells {n : Int} {q : List (Int × Int)} (h : Pcs n q) {k : Nat} {p : Int} (hb : ∀ j, j < k → j < q.length → (q.getD j (0, 0)).2 ≤ p) (hk : k < q.length → p < (q.getD k (0, 0)).2) :
    (∃ c ∈ q, c.1 ≤ p ∧ p < c.2) ↔ k < q.length ∧ (q.getD k (0, 0)).1 ≤ p := by
  constructor
  · rintro ⟨c, hc, h1, h2⟩
    obtain ⟨j, hj, e⟩ := List.mem_iff_getElem.1 hc
    have e' : q.getD j (0, 0) = c := by simp [List.getD, hj, e]
    have hkj : k ≤ j := by
      rcases Nat.lt_or_ge j k with hl | hl
      · have := hb j hl hj
        rw [e'] at this; omega
      · exact hl
    refine ⟨by omega, ?_⟩
    rcases Nat.eq_or_lt_of_le hkj with e2 | hl
    · subst e2; rw [e']; exact h1
    · have h3 := (List.pairwise_iff_getElem.1 h.a) k j (by omega) hj hl
      have h4 := hk (by omega)
      rw [e] at h3
      have e3 : q.getD k (0, 0) = q[k]'(by omega) := by simp [List.getD, show k < q.length by omega]
      rw [e3] at h4
      omega
  · rintro ⟨h1, h2⟩
    refine ⟨q.getD k (0, 0), ?_, h2, hk h1⟩
    rw [List.getD_eq_getElem?_getD, List.getElem?_eq_getElem h1]; exact List.getElem_mem h1
/-- a delta that only keeps -/
def stR (n : Int) : List Dop := [⟨1, n, []⟩]
theorem stR_all {n : Nat} (h0 : 0 < n) (hn : n ≤ 268435456) : valB (stR n) = true ∧ frD (stR n) = n ∧ toD (stR n) = n ∧ (runL (stR n)).2 = [] := by
  unfold stR
  have hf : frD [(⟨1, (n : Int), []⟩ : Dop)] = n := by simp [frD, frN]
  have ht : toD [(⟨1, (n : Int), []⟩ : Dop)] = n := by simp [toD, toN]
  refine ⟨?_, hf, ht, rfl⟩
  unfold valB lonB
  rw [hf, ht]
  have h1 : decide (268435456 < n ∨ 268435456 < n) = false := decide_eq_false (by omega)
  have h3 : plB ⟨1, (n : Int), []⟩ = true := by unfold plB; simp; omega
  have h4 : apL 7 [(⟨1, (n : Int), []⟩ : Dop)] = true := rfl
  rw [h1, h4]
  simp [h3]
theorem stR_kp {n : Nat} (h0 : 0 < n) (hn : n ≤ 268435456) {S : List Rg} (h : InR (n : Int) S) : kpG (stR n) S = S ∧ goG (stR n) S = [] := by
  obtain ⟨hv, hf, _, hr⟩ := stR_all h0 hn
  have hm : ∀ x ∈ S, mvG (stR n) x = x := fun x hx => by
    obtain ⟨⟨a1, a2, a3⟩, b1, b2⟩ := h x hx
    have e1 := (pl_zero hv (p := x.lo) (g := x.st) (by rw [hf]; omega) b1).2
    have e2 := (pl_zero hv (p := x.hi) (g := x.en) (by rw [hf]; omega) b2).2
    rw [hr] at e1 e2
    unfold mvG
    rw [e1, e2]
    simp [mvC]
  have e : S.map (mvG (stR n)) = S := by
    have : S.map (mvG (stR n)) = S.map id := List.map_congr_left hm
    rw [this, List.map_id]
  unfold kpG goG
  rw [e]
  refine ⟨List.filter_eq_self.2 fun x hx => decide_eq_true (h x hx).1.2.1, ?_⟩
  rw [List.map_eq_nil_iff, List.filter_eq_nil_iff]
  intro x hx
  simp [(h x hx).1.2.1]
end Go.Proofs.Ytifpjdodignflaa
end

section
namespace Go.Proofs.Ytifpjdodignflaa
open Go.ChangeShapes Go.WideShapes Go.ChangeAt Go.RowKit
attribute [local go_sem] Oper.semAt_some

set_option maxRecDepth 100000 in
set_option maxHeartbeats 2000000 in
theorem RSameR_at (a : Option Addr) (c : Nat) (a' : Option Addr) (c' : Nat) (l : List Rg) (X : World) (h : IsRl X a l) (h' : IsRl X a' l) (hl : l.length ≤ 1048576) :
    Calls Try.prog 16 #[.slice a l.length c, .slice a' l.length c'] X fun y X' => y = .returned (.bool true) ∧ Below X.heap.size X X' := by
  have HL := hide h
  have HL' := hide h'
  obtain ⟨N, hN⟩ : ∃ N, N = l.length := ⟨_, rfl⟩
  have HN := hide hN
  rw [← hN] at hl ⊢
  clear hN h h'
  go_enter Try.func16, Try.ntmps16
  go_wp2_with fail
  go_loopw [5] (fun v5 wx => (∃ i : Nat, v5 = .int .i64 (i : Int) ∧ i ≤ N) ∧ Hid (Below X.heap.size X wx)) (fun v5 _ => N - (intOf v5).toNat)
  case atStart => exact ⟨⟨0, rfl, Nat.zero_le _⟩, hide (Below.refl _ _)⟩
  case round =>
    obtain ⟨⟨i, rfl, hi⟩, HB⟩ := hrel
    by_cases hlt : i < N
    · have t1 : decide ((i : Int) < (N : Int)) = true := decide_eq_true (by omega)
      have hlt' : i < l.length := by rw [← unhide HN]; exact hlt
      obtain ⟨g, off, rfl, hg, c0, c1, c2, c3, c4⟩ := ((unhide HL).below (unhide HB) (Nat.le_refl _)).five hlt'
      obtain ⟨g', off', rfl, hg', e0, e1, e2, e3, e4⟩ := ((unhide HL').below (unhide HB) (Nat.le_refl _)).five hlt'
      generalize l.getD i rgZ = m at *
      obtain ⟨mn, ml, mh, ms, me⟩ := m
      dsimp only at c0 c1 c2 c3 c4 e0 e1 e2 e3 e4
      have HB1 := hide (unhide HB).drew
      clear hg hg' HB hlt'
      go_upto_region 6 with fail
      go_region
      go_wp2_with fail
      go_roundw
      case rel => exact ⟨⟨i + 1, by go_num, hlt⟩, HB1⟩
      case measure => simp [intOf]; omega
    · obtain rfl : i = N := by omega
      have t1 : decide ((i : Int) < (i : Int)) = false := decide_eq_false (by omega)
      go_wp2_with fail
      refine bodyPost_ret (results_tmp rfl _ _ _) rfl ⟨rfl, unhide HB⟩
end Go.Proofs.Ytifpjdodignflaa
end

section
namespace Go.Proofs.Ytifpjdodignflaa
open Go.ChangeShapes Go.WideShapes Go.ChangeAt Go.RowKit
attribute [local go_sem] Oper.semAt_some

/-- an operation of a script: its kind, its range, its delta -/
structure Oc where
  k : Int
  x : Rg
  a : Option Addr
  c : Nat
  d : List Dop
def ocZ : Oc := ⟨0, rgZ, none, 0, []⟩
instance : Inhabited Oc := ⟨ocZ⟩
def ocL (q : Oc) : List Value := [.int .i64 q.k, .string q.x.n, .int .i64 q.x.lo, .int .i64 q.x.hi, .int .i64 q.x.st, .int .i64 q.x.en, .slice q.a q.d.length q.c]
structure OcI (W : World) (y : Oc) : Prop where
  o : IsO W y.a y.d
  z : y.d = [] ∨ ∃ q, y.a = some q
  l : y.d.length * 32 ≤ 140737488355328
  t : ∀ o ∈ y.d, TbD o ∧ o.t.length ≤ 140737488355328
/-- a list of operations that lies there -/
def IsOc (W : World) (a : Option Addr) (l : List Oc) : Prop := (∀ y ∈ l, OcI W y) ∧ (l = [] ∨ ∃ g off, a = some ⟨g, off, none⟩ ∧ g < W.heap.size ∧ ∀ k, k < l.length → ∀ j, j < 7 → W.cell? ⟨g, off + k * 7 + j, none⟩ = (ocL (l.getD k ocZ))[j]?)
theorem OcI.below {W W' : World} {y : Oc} (h : OcI W y) (hb : Below W.heap.size W W') : OcI W' y := ⟨h.o.below hb (Nat.le_refl _), h.z, h.l, h.t⟩
theorem IsOc.at {W : World} {a : Option Addr} {l : List Oc} (h : IsOc W a l) {k : Nat} (hk : k < l.length) {W' : World} (hb : Below W.heap.size W W') : OcI W' (l.getD k ocZ) ∧ ∃ g off, a = some ⟨g, off, none⟩ ∧ g < W.heap.size ∧ ∀ j, j < 7 → W'.cell? ⟨g, off + k * 7 + j, none⟩ = (ocL (l.getD k ocZ))[j]? := by
  have hm : l.getD k ocZ ∈ l := by rw [List.getD_eq_getElem?_getD, List.getElem?_eq_getElem hk]; exact List.getElem_mem hk
  refine ⟨(h.1 _ hm).below hb, ?_⟩
  rcases h.2 with h2 | ⟨g, off, e, hg, hc⟩
  · rw [h2] at hk; simp at hk
  · exact ⟨g, off, e, hg, fun j hj => (hb.cell (p := ⟨g, off + k * 7 + j, none⟩) hg).trans (hc k hk j hj)⟩
end Go.Proofs.Ytifpjdodignflaa
end

section
namespace Go.Proofs.Ytifpjdodignflaa
open Go.ChangeShapes Go.WideShapes Go.ChangeAt Go.RowKit
attribute [local go_sem] Oper.semAt_some

def exR : Rg := ⟨⟨#[97]⟩, 2, 5, 2, 1⟩
def exD16 : List Dop := [⟨1, 2, []⟩, ⟨2, 0, [120, 121]⟩, ⟨1, 8, []⟩]
theorem ex16_v : valB exD16 = true ∧ frD exD16 = 10 ∧ toD exD16 = 12 := by decide
theorem ex16_p : plV exD16 2 2 = 4 ∧ plV exD16 5 1 = 7 := by decide
theorem ex16_r : refG 10 [] exR = 0 := by decide
theorem ex16_k : kpG exD16 [exR] = [⟨⟨#[97]⟩, 4, 7, 2, 1⟩] ∧ goG exD16 [exR] = [] := by
  have e : mvG exD16 exR = ⟨⟨#[97]⟩, 4, 7, 2, 1⟩ := by
    unfold mvG exR
    dsimp only
    rw [ex16_p.1, ex16_p.2]
  unfold kpG goG
  rw [List.map_singleton, e]
  exact ⟨rfl, rfl⟩
theorem lit_isOR (X : World) (ds : List Dop) (cs : Array Value) (h : cs.toList = opsV ds) : IsO (X.alloc (.cells cs 54)) (some ⟨X.heap.size, 0, none⟩) ds := by
  refine Or.inr ⟨_, _, rfl, by simp, fun k hk => ?_⟩
  have f : ∀ j, (X.alloc (.cells cs 54)).cell? ⟨X.heap.size, j, none⟩ = cs[j]? := fun j => World.cell?_alloc_mark X _ _ (0, 0) j
  have g : ∀ j, j < 3 → cs[k * 3 + j]? = (opL (ds.getD k opZ))[j]? := fun j hj => by
    rw [← opsV_get ds k j hk hj, ← h, Array.getElem?_toList]
  refine ⟨?_, ?_, ?_⟩
  · rw [Nat.zero_add, f]; exact g 0 (by decide)
  · rw [Nat.zero_add, f]; exact g 1 (by decide)
  · rw [Nat.zero_add, f]; exact g 2 (by decide)
set_option maxRecDepth 100000 in
set_option maxHeartbeats 2000000 in
theorem awake16_at (X : World) : Calls Try.prog 8 #[] X fun y X' => y = .returned (.bool true) ∧ Below X.heap.size X X' := by
  have H1 := hide (GNew_at 10 X (by decide))
  have H2 := hide fun (Y : World) (g : Nat) (h : IsRs Y g 10 []) => GSet_at g 10 [] exR Y h ex16_r
  have H3 := hide fun (Y : World) (g : Nat) (h : IsRs Y g 10 [exR]) => GBeh_at g 10 [exR] (some ⟨Y.heap.size, 0, none⟩) 3 exD16 (Y.alloc (.cells #[.int .i64 1, .int .i64 2, .string ⟨#[]⟩, .int .i64 2, .int .i64 0, .string ⟨#[120, 121]⟩, .int .i64 1, .int .i64 8, .string ⟨#[]⟩] 54)) (h.below ((Below.refl _ _).alloc (Nat.le_refl _) _) (Nat.le_refl _)) (lit_isOR Y exD16 _ (by kernel_rfl)) (by decide) ex16_v.1 (by rw [ex16_v.2.1]; rfl) (by simp) (by simp)
  have H4 := hide fun (Y : World) (g : Nat) (h : IsRs Y g 12 [⟨⟨#[97]⟩, 4, 7, 2, 1⟩]) => GGet_at g 12 [⟨⟨#[97]⟩, 4, 7, 2, 1⟩] ⟨#[97]⟩ Y h
  rw [show ((getG ⟨#[97]⟩ [(⟨⟨#[97]⟩, 4, 7, 2, 1⟩ : Rg)]).map rgV).getD (.agg #[.string ⟨#[]⟩, .int .i64 0, .int .i64 0, .int .i64 0, .int .i64 0]) = .agg #[.string ⟨#[97]⟩, .int .i64 4, .int .i64 7, .int .i64 2, .int .i64 1] from rfl, show (getG ⟨#[97]⟩ [(⟨⟨#[97]⟩, 4, 7, 2, 1⟩ : Rg)]).isSome = true from rfl] at H4
  rw [show rgV exR = .agg #[.string ⟨#[97]⟩, .int .i64 2, .int .i64 5, .int .i64 2, .int .i64 1] from rfl, show putG exR [] = [exR] from rfl] at H2
  rw [show exD16.length = 3 from rfl, ex16_v.2.2] at H3
  go_enter Try.func8, Try.ntmps8
  go_wp2_with fail
  refine (unhide H1).mono ?_
  rintro y w1 ⟨g1, rfl, _, s1, x1⟩
  dsimp only
  have HX1 := hide x1
  have HC2 := hide (unhide H2 w1 g1 s1)
  clear H1 H2 s1 x1
  go_wp2_with fail
  refine (unhide HC2).mono ?_
  rintro y w2 ⟨g2, rfl, s2, x2⟩
  dsimp only
  have HX2 := hide ((unhide HX1).trans (x2.mono (unhide HX1).size))
  have HC3 := hide (unhide H3 w2 g2 s2)
  clear HC2 HX1 H3 s2 x2
  go_wp2_with fail
  refine (unhide HC3).mono ?_
  rintro y w3 ⟨g3, S, ag, cg, rfl, hp, s3, x3⟩
  dsimp only
  obtain rfl : S = [exR] := List.perm_singleton.1 hp
  rw [ex16_k.1] at s3
  rw [ex16_k.2]
  have b3 := (Below.refl w2.heap.size w2).alloc (Nat.le_refl _) (.cells #[.int .i64 1, .int .i64 2, .string ⟨#[]⟩, .int .i64 2, .int .i64 0, .string ⟨#[120, 121]⟩, .int .i64 1, .int .i64 8, .string ⟨#[]⟩] 54)
  have HX3 := hide ((unhide HX2).trans ((b3.trans (x3.mono b3.size)).mono (unhide HX2).size))
  have HC4 := hide (unhide H4 w3 g3 s3)
  clear HC3 HX2 H4 hp s3 x3 b3
  go_wp2_with fail
  refine (unhide HC4).mono ?_
  rintro y w4 ⟨rfl, x4⟩
  dsimp only
  have hx4 := (unhide HX3).trans (x4.mono (unhide HX3).size)
  have k5 := Cls.new w4 37 #[.string ⟨#[97]⟩, .int .i64 4, .int .i64 7, .int .i64 2, .int .i64 1]
  have c1 := k5.cell 1
  have c2 := k5.cell 2
  simp only [List.getElem?_toArray, List.getElem?_cons_zero, List.getElem?_cons_succ] at c1 c2
  have HB := hide (hx4.alloc hx4.size (.cells #[.string ⟨#[97]⟩, .int .i64 4, .int .i64 7, .int .i64 2, .int .i64 1] 37))
  clear HC4 HX3 x4 hx4 k5
  go_wp2_with fail
  refine bodyPost_ret (results_tmp rfl _ _ _) rfl ⟨rfl, unhide HB⟩
end Go.Proofs.Ytifpjdodignflaa
end
