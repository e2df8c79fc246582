/- Layer 14, plain: places behind changes. · Layer 16, plain: what ranges cover; ranges of a text; a delta that only keeps. · Layer 16: the document's Same, of lists that are alike. -/
import Derived.Test.YtifpjdodignflaaRp28
import Derived.Test.YtifpjdodignflaaRp32

section
namespace Go.Proofs.Ytifpjdodignflaa

theorem mv_lb (g : Int) : ∀ (cs : List Dop) (h q s : Int), GapC h cs → h ≤ q → h + s ≤ mvC q g s cs
  | [], h, q, s, _, hq => by simp only [mvC]; omega
  | c :: r, h, q, s, hg, hq => by
    have h1 := hg.1
    have h2 := hg.2.1
    simp only [mvC]
    split
    · omega
    · split
      · split <;> omega
      · have ih := mv_lb g r c.n q (s + ((c.t.length : Int) - (c.n - c.k))) hg.2.2 (by omega)
        omega
theorem mv_mono (g : Int) : ∀ (cs : List Dop) (h p q s : Int), GapC h cs → h ≤ p → p ≤ q → mvC p g s cs ≤ mvC q g s cs
  | [], _, p, q, s, _, _, hq => by simp only [mvC]; omega
  | c :: r, h, p, q, s, hg, hp, hq => by
    have h1 := hg.1
    have h2 := hg.2.1
    have lb : c.n < q → c.n + (s + ((c.t.length : Int) - (c.n - c.k))) ≤ mvC q g (s + ((c.t.length : Int) - (c.n - c.k))) r := fun h => mv_lb g r c.n q _ hg.2.2 (by omega)
    simp only [mvC]
    by_cases p1 : p < c.k
    · rw [if_pos p1]
      by_cases q1 : q < c.k
      · rw [if_pos q1]; omega
      · rw [if_neg q1]
        by_cases q2 : q ≤ c.n
        · rw [if_pos q2]; split <;> omega
        · rw [if_neg q2]
          have := lb (by omega)
          omega
    · rw [if_neg p1, if_neg (show ¬ q < c.k by omega)]
      by_cases p2 : p ≤ c.n
      · rw [if_pos p2]
        by_cases q2 : q ≤ c.n
        · rw [if_pos q2]; exact Int.le_refl _
        · rw [if_neg q2]
          have := lb (by omega)
          split <;> omega
      · rw [if_neg p2, if_neg (show ¬ q ≤ c.n by omega)]
        exact mv_mono g r c.n p q _ hg.2.2 (by omega) hq
theorem mv_lr : ∀ (cs : List Dop) (p s : Int), mvC p 1 s cs ≤ mvC p 2 s cs
  | [], _, _ => Int.le_refl _
  | c :: r, p, s => by
    simp only [mvC]
    split
    · exact Int.le_refl _
    · split
      · simp; omega
      · exact mv_lr r p _
theorem mv_end : ∀ (cs : List Dop) (h n s : Int), GapC h cs → lstC h cs ≤ n → mvC n 2 s cs = n + s + dlC cs
  | [], _, _, _, _, _ => by simp [mvC, dlC]
  | c :: r, h, n, s, hg, hl => by
    have h1 := hg.1
    have h2 := hg.2.1
    have h3 := gap_le hg.2.2
    simp only [lstC] at hl
    simp only [mvC, dlC]
    rw [if_neg (by omega)]
    by_cases q2 : n ≤ c.n
    · rw [if_pos q2, if_neg (by decide)]
      cases r with
      | nil => simp only [dlC]; omega
      | cons c2 r2 =>
        have := hg.2.2.1
        have := hg.2.2.2.1
        have := h3.2 c2 (by simp)
        omega
    · rw [if_neg q2, mv_end r c.n n _ hg.2.2 hl]
      omega
theorem mv_zero : ∀ (cs : List Dop), GapC (-1) cs → mvC 0 1 0 cs = 0
  | [], _ => rfl
  | c :: r, hg => by
    have h1 := hg.1
    have h2 := hg.2.1
    simp only [mvC]
    by_cases q : (0 : Int) < c.k
    · rw [if_pos q]; rfl
    · rw [if_neg q, if_pos (by omega)]; simp; omega
/-- the lengths by the changes -/
theorem to_ch {d : List Dop} (hv : valB d = true) : GapC (-1) (runL d).2 ∧ lstC (-1) (runL d).2 ≤ frD d ∧ (toD d : Int) = frD d + dlC (runL d).2 := by
  have hs := chs_run (val_Can hv)
  have hm := hs.f
  generalize (runL d).2 = cs at *
  generalize (runL d).1 = m at *
  have hl := hs.l
  have hg := hs.g
  have hlm : lstC (-1) cs ≤ m := by
    by_cases hc : cs = []
    · rw [hc]; simp only [lstC]; omega
    · have := lstC_two 0 (-1) hc
      omega
  have t5 := opC_sizes cs 0 m (gap_okL hg hlm (by omega) (by omega))
  have h1 := congrArg toA hs.a
  rw [to_app, (frA_dA (opC_k 0 cs)).2, (frA_dA (valB_k hv)).2, (fr_rep_k _).2] at h1
  exact ⟨hg, by omega, by omega⟩
theorem pl_zero {d : List Dop} {p g : Int} (hv : valB d = true) (hp : 0 ≤ p ∧ p ≤ frD d) (hg : g = 1 ∨ g = 2) : plE d p g = 0 ∧ plV d p g = mvC p g 0 (runL d).2 := by
  have h : plE d p g = 0 := by unfold plE; rw [hv, if_pos rfl, if_pos ⟨hp, hg⟩]
  exact ⟨h, by unfold plV; rw [if_pos h]⟩

end Go.Proofs.Ytifpjdodignflaa
end

section
namespace Go.Proofs.Ytifpjdodignflaa
open Go.ChangeShapes Go.WideShapes Go.ChangeAt Go.RowKit

/-- pieces that rise and don't touch, each with a byte -/
structure Pcs (n : Int) (q : List (Int × Int)) : Prop where
  v : ∀ p ∈ q, 0 ≤ p.1 ∧ p.1 < p.2 ∧ p.2 ≤ n
  a : q.Pairwise fun a b => a.2 < b.1
/-- ranges of a text, of which each has a byte -/
def InR (n : Int) (L : List Rg) : Prop := ∀ x ∈ L, (0 ≤ x.lo ∧ x.lo < x.hi ∧ x.hi ≤ n) ∧ (x.st = 1 ∨ x.st = 2) ∧ (x.en = 1 ∨ x.en = 2)
theorem InR.all {n : Int} {L : List Rg} (h : InR n L) (hn : 0 ≤ n) : L.filter (inG 0 n) = L := List.filter_eq_self.2 fun x hx => by
  obtain ⟨⟨h1, h2, h3⟩, _⟩ := h x hx
  unfold inG
  by_cases e : (0 : Int) = n
  · omega
  · rw [if_neg e]
    simp only [Bool.and_eq_true, decide_eq_true_eq]
    omega
theorem InR.put {n : Int} {L : List Rg} (h : InR n L) {x : Rg} (hr : refG n L x = 0) : InR n (putG x L) := by
  intro y hy
  rcases List.mem_cons.1 ((put_perm x L).mem_iff.1 hy) with rfl | hy
  · unfold refG at hr
    split at hr
    · cases hr
    · split at hr
      · cases hr
      · rename_i _ h2
        have h3 : holdB y.st = true := by cases hc : holdB y.st with
          | true => rfl
          | false => exact absurd (.inr (.inr (.inr (.inl hc)))) h2
        have h4 : holdB y.en = true := by cases hc : holdB y.en with
          | true => rfl
          | false => exact absurd (.inr (.inr (.inr (.inr hc)))) h2
        exact ⟨⟨by omega, by omega, by omega⟩, of_decide_eq_true h3, of_decide_eq_true h4⟩
  · exact h y ((del_sub _ _).mem hy)
theorem unl_put {L : List Rg} (h : Unl L) (x : Rg) : Unl (putG x L) := by
  refine Unl.perm ?_ (put_perm x L).symm
  unfold Unl
  simp only [List.map_cons, List.nodup_cons]
  refine ⟨fun hm => ?_, del_unl h⟩
  obtain ⟨y, hy, e⟩ := List.mem_map.1 hm
  exact del_names h y hy e
theorem put_many {n : Int} {L : List Rg} (hL : L.length ≤ 1024) {x : Rg} (hr : refG n L x = 0) : (putG x L).length ≤ 1024 := by
  have h1 := (put_perm x L).length_eq
  cases hg : getG x.n L with
  | none =>
    rw [del_no hg, List.length_cons] at h1
    unfold refG at hr
    split at hr
    · cases hr
    · split at hr
      · cases hr
      · split at hr
        · cases hr
        · rename_i h2
          rw [hg] at h2
          have h3 : ¬ 1024 ≤ L.length := fun hc => h2 ⟨rfl, hc⟩
          omega
  | some y =>
    have h2 := (del_perm hg).length_eq
    rw [List.length_cons] at h1 h2
    omega
theorem srt_of {E : List Rg} (hu : Unl E) (hs : E.Pairwise fun a b => ltG b a = false) : Srt E := by
  unfold Unl at hu
  rw [List.nodup_iff_pairwise_ne, List.pairwise_map] at hu
  exact (hs.and hu).imp fun ⟨h1, h2⟩ => ltG_tri (Ne.symm h2) h1
/-- two lists of the same ranges in order are one -/
theorem two_one {L S E1 E2 : List Rg} (hu : Unl L) (hS : S.Perm L) (h1 : E1.Perm S) (s1 : E1.Pairwise fun a b => ltG b a = false) (h2 : E2.Perm L) (s2 : E2.Pairwise fun a b => ltG b a = false) : E1 = E2 :=
  srt_one ((h1.trans hS).trans h2.symm) (srt_of (hu.perm (h1.trans hS).symm) s1) (srt_of (hu.perm h2.symm) s2)
theorem cov_step {n : Int} {q : List (Int × Int)} {x : Rg} (h : Pcs n q) (hx : 0 ≤ x.lo ∧ x.lo < x.hi ∧ x.hi ≤ n) (hl : ∀ p ∈ q, p.1 ≤ x.lo) :
    Pcs n (covS q x) ∧ (∀ p ∈ covS q x, p.1 ≤ x.lo) ∧ ∀ z : Int, (∃ p ∈ covS q x, p.1 ≤ z ∧ z < p.2) ↔ (∃ p ∈ q, p.1 ≤ z ∧ z < p.2) ∨ (x.lo ≤ z ∧ z < x.hi) := by
  by_cases hq : q = []
  · subst hq
    rw [covS_nil]
    refine ⟨⟨fun p hp => ?_, List.pairwise_singleton _ _⟩, fun p hp => ?_, fun z => ?_⟩
    · simp only [List.mem_singleton] at hp; subst hp; exact hx
    · simp only [List.mem_singleton] at hp; subst hp; exact Int.le_refl _
    · simp
  · obtain ⟨e, ⟨u, v⟩, rfl⟩ : ∃ e p, q = e ++ [p] := ⟨q.dropLast, q.getLast hq, (List.dropLast_concat_getLast hq).symm⟩
    obtain ⟨ha1, ha2, ha3⟩ := List.pairwise_append.1 h.a
    have huv := h.v (u, v) (by simp)
    have hul := hl (u, v) (by simp)
    dsimp only at huv hul
    rw [covS_snoc]
    split
    · rename_i hc
      refine ⟨⟨fun p hp => ?_, ?_⟩, fun p hp => ?_, fun z => ?_⟩
      · rcases List.mem_append.1 hp with hp | hp
        · exact h.v p hp
        · simp only [List.mem_singleton] at hp; subst hp; exact hx
      · refine List.pairwise_append.2 ⟨h.a, List.pairwise_singleton _ _, fun a ha b hb => ?_⟩
        simp only [List.mem_singleton] at hb
        subst hb
        rcases List.mem_append.1 ha with ha | ha
        · have h1 := ha3 a ha (u, v) (by simp)
          dsimp only at h1 ⊢
          omega
        · simp only [List.mem_singleton] at ha; subst ha; exact hc
      · rcases List.mem_append.1 hp with hp | hp
        · exact hl p hp
        · simp only [List.mem_singleton] at hp; subst hp; exact Int.le_refl _
      · constructor
        · rintro ⟨p, hp, h1⟩
          rcases List.mem_append.1 hp with hp | hp
          · exact .inl ⟨p, hp, h1⟩
          · simp only [List.mem_singleton] at hp; subst hp; exact .inr h1
        · rintro (⟨p, hp, h1⟩ | h1)
          · exact ⟨p, List.mem_append_left _ hp, h1⟩
          · exact ⟨(x.lo, x.hi), by simp, h1⟩
    · rename_i hc
      have hm1 : v ≤ max v x.hi := Int.le_max_left _ _
      have hm2 : x.hi ≤ max v x.hi := Int.le_max_right _ _
      have hm3 : max v x.hi = v ∨ max v x.hi = x.hi := by omega
      refine ⟨⟨fun p hp => ?_, ?_⟩, fun p hp => ?_, fun z => ?_⟩
      · rcases List.mem_append.1 hp with hp | hp
        · exact h.v p (List.mem_append_left _ hp)
        · simp only [List.mem_singleton] at hp; subst hp
          dsimp only
          omega
      · refine List.pairwise_append.2 ⟨ha1, List.pairwise_singleton _ _, fun a ha b hb => ?_⟩
        simp only [List.mem_singleton] at hb
        subst hb
        exact ha3 a ha (u, v) (by simp)
      · rcases List.mem_append.1 hp with hp | hp
        · exact hl p (List.mem_append_left _ hp)
        · simp only [List.mem_singleton] at hp; subst hp; exact hul
      · constructor
        · rintro ⟨p, hp, h1⟩
          rcases List.mem_append.1 hp with hp | hp
          · exact .inl ⟨p, List.mem_append_left _ hp, h1⟩
          · simp only [List.mem_singleton] at hp; subst hp
            dsimp only at h1
            by_cases hz : z < v
            · exact .inl ⟨(u, v), by simp, by dsimp only; omega⟩
            · exact .inr (by omega)
        · rintro (⟨p, hp, h1⟩ | h1)
          · rcases List.mem_append.1 hp with hp | hp
            · exact ⟨p, List.mem_append_left _ hp, h1⟩
            · simp only [List.mem_singleton] at hp; subst hp
              exact ⟨(u, max v x.hi), by simp, by dsimp only at h1 ⊢; omega⟩
          · exact ⟨(u, max v x.hi), by simp, by dsimp only; omega⟩
theorem cov_all {n : Int} : ∀ (E : List Rg) (q : List (Int × Int)), Pcs n q → (∀ x ∈ E, 0 ≤ x.lo ∧ x.lo < x.hi ∧ x.hi ≤ n) → (∀ x ∈ E, ∀ p ∈ q, p.1 ≤ x.lo) → (E.Pairwise fun a b => a.lo ≤ b.lo) →
    Pcs n (E.foldl covS q) ∧ ∀ z : Int, (∃ p ∈ E.foldl covS q, p.1 ≤ z ∧ z < p.2) ↔ (∃ p ∈ q, p.1 ≤ z ∧ z < p.2) ∨ ∃ x ∈ E, x.lo ≤ z ∧ z < x.hi
  | [], q, h, _, _, _ => ⟨h, fun z => by simp⟩
  | x :: E, q, h, hE, hl, hs => by
    obtain ⟨h1, h2, h3⟩ := cov_step h (hE x (by simp)) (hl x (by simp))
    obtain ⟨hs1, hs2⟩ := List.pairwise_cons.1 hs
    obtain ⟨k1, k2⟩ := cov_all E (covS q x) h1 (fun y hy => hE y (by simp [hy])) (fun y hy p hp => Int.le_trans (h2 p hp) (hs1 y hy)) hs2
    refine ⟨k1, fun z => ?_⟩
    rw [List.foldl_cons, k2 z, h3 z]
    constructor
    · rintro ((h | h) | ⟨y, hy, h⟩)
      · exact .inl h
      · exact .inr ⟨x, by simp, h⟩
      · exact .inr ⟨y, by simp [hy], h⟩
    · rintro (h | ⟨y, hy, h⟩)
      · exact .inl (.inl h)
      · rcases List.mem_cons.1 hy with rfl | hy
        · exact .inl (.inr h)
        · exact .inr ⟨y, hy, h⟩
/-- what is covered -/
theorem cov_is {n : Int} {L E : List Rg} (hL : InR n L) (hp : E.Perm L) (hs : E.Pairwise fun a b => ltG b a = false) :
    Pcs n (covL E) ∧ ∀ z : Int, (∃ p ∈ covL E, p.1 ≤ z ∧ z < p.2) ↔ L.filter (inG z (z + 1)) ≠ [] := by
  obtain ⟨h1, h2⟩ := cov_all (n := n) E [] ⟨by simp, List.Pairwise.nil⟩ (fun x hx => (hL x (hp.mem_iff.1 hx)).1) (by simp) (hs.imp fun {a b} h => by
    rcases (ltG_not b a).1 h with h | ⟨h, _⟩ <;> omega)
  refine ⟨h1, fun z => ?_⟩
  unfold covL
  rw [h2 z]
  have hf : L.filter (inG z (z + 1)) ≠ [] ↔ ∃ x ∈ L, inG z (z + 1) x = true := by
    rw [ne_eq, List.filter_eq_nil_iff]
    constructor
    · intro h
      refine Classical.byContradiction fun hc => h fun x hx hi => hc ⟨x, hx, hi⟩
    · rintro ⟨x, hx, hi⟩ h
      exact h x hx hi
  rw [hf]
  have hi : ∀ x : Rg, inG z (z + 1) x = true ↔ x.lo ≤ z ∧ z < x.hi := fun x => by
    unfold inG
    rw [if_neg (by omega)]
    simp only [Bool.and_eq_true, decide_eq_true_eq]
    omega
  constructor
  · rintro (⟨p, hp, _⟩ | ⟨x, hx, h⟩)
    · simp at hp
    · exact ⟨x, hp.mem_iff.1 hx, (hi x).2 h⟩
  · rintro ⟨x, hx, h⟩
    exact .inr ⟨x, hp.mem_iff.2 hx, (hi x).1 h⟩
/-- a piece's number, and its neighbour's -/
theorem Pcs.next {n : Int} {q : List (Int × Int)} (h : Pcs n q) {k : Nat} (hk : k + 1 < q.length) : (q.getD k (0, 0)).2 < (q.getD (k + 1) (0, 0)).1 := by
  have := (List.pairwise_iff_getElem.1 h.a) k (k + 1) (by omega) hk (by omega)
  simpa [List.getD, hk, show k < q.length by omega] using this
theorem Pcs.at {n : Int} {q : List (Int × Int)} (h : Pcs n q) {k : Nat} (hk : k < q.length) : 0 ≤ (q.getD k (0, 0)).1 ∧ (q.getD k (0, 0)).1 < (q.getD k (0, 0)).2 ∧ (q.getD k (0, 0)).2 ≤ n := by
  refine h.v _ ?_
  rw [List.getD_eq_getElem?_getD, List.getElem?_eq_getElem hk]; exact List.getElem_mem hk
/-- is a byte in a piece? the first piece that ends behind it tells -/
theorem Pcs.tells {n : Int} {q : List (Int × Int)} (h : Pcs n q) {k : Nat} {p : Int} (hb : ∀ j, j < k → j < q.length → (q.getD j (0, 0)).2 ≤ p) (hk : k < q.length → p < (q.getD k (0, 0)).2) :
    (∃ c ∈ q, c.1 ≤ p ∧ p < c.2) ↔ k < q.length ∧ (q.getD k (0, 0)).1 ≤ p := by
  constructor
  · rintro ⟨c, hc, h1, h2⟩
    obtain ⟨j, hj, e⟩ := List.mem_iff_getElem.1 hc
    have e' : q.getD j (0, 0) = c := by simp [List.getD, hj, e]
    have hkj : k ≤ j := by
      rcases Nat.lt_or_ge j k with hl | hl
      · have := hb j hl hj
        rw [e'] at this; omega
      · exact hl
    refine ⟨by omega, ?_⟩
    rcases Nat.eq_or_lt_of_le hkj with e2 | hl
    · subst e2; rw [e']; exact h1
    · have h3 := (List.pairwise_iff_getElem.1 h.a) k j (by omega) hj hl
      have h4 := hk (by omega)
      rw [e] at h3
      have e3 : q.getD k (0, 0) = q[k]'(by omega) := by simp [List.getD, show k < q.length by omega]
      rw [e3] at h4
      omega
  · rintro ⟨h1, h2⟩
    refine ⟨q.getD k (0, 0), ?_, h2, hk h1⟩
    rw [List.getD_eq_getElem?_getD, List.getElem?_eq_getElem h1]; exact List.getElem_mem h1
/-- a delta that only keeps -/
def stR (n : Int) : List Dop := [⟨1, n, []⟩]
theorem stR_all {n : Nat} (h0 : 0 < n) (hn : n ≤ 268435456) : valB (stR n) = true ∧ frD (stR n) = n ∧ toD (stR n) = n ∧ (runL (stR n)).2 = [] := by
  unfold stR
  have hf : frD [(⟨1, (n : Int), []⟩ : Dop)] = n := by simp [frD, frN]
  have ht : toD [(⟨1, (n : Int), []⟩ : Dop)] = n := by simp [toD, toN]
  refine ⟨?_, hf, ht, rfl⟩
  unfold valB lonB
  rw [hf, ht]
  have h1 : decide (268435456 < n ∨ 268435456 < n) = false := decide_eq_false (by omega)
  have h3 : plB ⟨1, (n : Int), []⟩ = true := by unfold plB; simp; omega
  have h4 : apL 7 [(⟨1, (n : Int), []⟩ : Dop)] = true := rfl
  rw [h1, h4]
  simp [h3]
theorem stR_kp {n : Nat} (h0 : 0 < n) (hn : n ≤ 268435456) {S : List Rg} (h : InR (n : Int) S) : kpG (stR n) S = S ∧ goG (stR n) S = [] := by
  obtain ⟨hv, hf, _, hr⟩ := stR_all h0 hn
  have hm : ∀ x ∈ S, mvG (stR n) x = x := fun x hx => by
    obtain ⟨⟨a1, a2, a3⟩, b1, b2⟩ := h x hx
    have e1 := (pl_zero hv (p := x.lo) (g := x.st) (by rw [hf]; omega) b1).2
    have e2 := (pl_zero hv (p := x.hi) (g := x.en) (by rw [hf]; omega) b2).2
    rw [hr] at e1 e2
    unfold mvG
    rw [e1, e2]
    simp [mvC]
  have e : S.map (mvG (stR n)) = S := by
    have : S.map (mvG (stR n)) = S.map id := List.map_congr_left hm
    rw [this, List.map_id]
  unfold kpG goG
  rw [e]
  refine ⟨List.filter_eq_self.2 fun x hx => decide_eq_true (h x hx).1.2.1, ?_⟩
  rw [List.map_eq_nil_iff, List.filter_eq_nil_iff]
  intro x hx
  simp [(h x hx).1.2.1]
end Go.Proofs.Ytifpjdodignflaa
end

section
namespace Go.Proofs.Ytifpjdodignflaa
open Go.ChangeShapes Go.WideShapes Go.ChangeAt Go.RowKit
attribute [local go_sem] Oper.semAt_some

set_option maxRecDepth 100000 in
set_option maxHeartbeats 2000000 in
theorem RSameR_at (a : Option Addr) (c : Nat) (a' : Option Addr) (c' : Nat) (l : List Rg) (X : World) (h : IsRl X a l) (h' : IsRl X a' l) (hl : l.length ≤ 1048576) :
    Calls Try.prog 16 #[.slice a l.length c, .slice a' l.length c'] X fun y X' => y = .returned (.bool true) ∧ Below X.heap.size X X' := by
  have HL := hide h
  have HL' := hide h'
  obtain ⟨N, hN⟩ : ∃ N, N = l.length := ⟨_, rfl⟩
  have HN := hide hN
  rw [← hN] at hl ⊢
  clear hN h h'
  go_enter Try.func16, Try.ntmps16
  go_wp2_with fail
  go_loopw [5] (fun v5 wx => (∃ i : Nat, v5 = .int .i64 (i : Int) ∧ i ≤ N) ∧ Hid (Below X.heap.size X wx)) (fun v5 _ => N - (intOf v5).toNat)
  case atStart => exact ⟨⟨0, rfl, Nat.zero_le _⟩, hide (Below.refl _ _)⟩
  case round =>
    obtain ⟨⟨i, rfl, hi⟩, HB⟩ := hrel
    by_cases hlt : i < N
    · have t1 : decide ((i : Int) < (N : Int)) = true := decide_eq_true (by omega)
      have hlt' : i < l.length := by rw [← unhide HN]; exact hlt
      obtain ⟨g, off, rfl, hg, c0, c1, c2, c3, c4⟩ := ((unhide HL).below (unhide HB) (Nat.le_refl _)).five hlt'
      obtain ⟨g', off', rfl, hg', e0, e1, e2, e3, e4⟩ := ((unhide HL').below (unhide HB) (Nat.le_refl _)).five hlt'
      generalize l.getD i rgZ = m at *
      obtain ⟨mn, ml, mh, ms, me⟩ := m
      dsimp only at c0 c1 c2 c3 c4 e0 e1 e2 e3 e4
      have HB1 := hide (unhide HB).drew
      clear hg hg' HB hlt'
      go_upto_region 6 with fail
      go_region
      go_wp2_with fail
      go_roundw
      case rel => exact ⟨⟨i + 1, by go_num, hlt⟩, HB1⟩
      case measure => simp [intOf]; omega
    · obtain rfl : i = N := by omega
      have t1 : decide ((i : Int) < (i : Int)) = false := decide_eq_false (by omega)
      go_wp2_with fail
      refine bodyPost_ret (results_tmp rfl _ _ _) rfl ⟨rfl, unhide HB⟩
end Go.Proofs.Ytifpjdodignflaa
end
