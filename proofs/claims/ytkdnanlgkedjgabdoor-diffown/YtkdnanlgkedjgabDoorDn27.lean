/- Layer 19, plain: a text cut into pieces; pieces numbered alike; what holds of numbers holds of pieces. -/
import Derived.Test.YtkdnanlgkedjgabDoorDn00

namespace Go.Proofs.YtkdnanlgkedjgabDoor

/-- the pieces between cuts -/
def cutP (l : List Int) : List Nat → List (List Int)
  | [] => []
  | [_] => []
  | c :: d :: r => (l.drop c).take (d - c) :: cutP l (d :: r)
theorem cutP_len (l : List Int) : ∀ cs : List Nat, (cutP l cs).length = cs.length - 1
  | [] => rfl
  | [_] => rfl
  | c :: d :: r => by
    have := cutP_len l (d :: r)
    simp only [cutP, List.length_cons] at this ⊢
    omega
theorem cutP_get (l : List Int) : ∀ (cs : List Nat) (i : Nat), i + 1 < cs.length → (cutP l cs)[i]? = some ((l.drop (cs.getD i 0)).take (cs.getD (i + 1) 0 - cs.getD i 0))
  | [], _, h => by simp at h
  | [_], _, h => by simp at h
  | c :: d :: r, 0, _ => by simp [cutP]
  | c :: d :: r, i + 1, h => by
    have := cutP_get l (d :: r) i (by simpa using h)
    simpa [cutP] using this
/-- the cuts of a text: they rise from 0 to its end -/
structure OkCut (l : List Int) (cs : List Nat) : Prop where
  z : cs.head? = some 0
  e : cs.getLast? = some l.length
  r : cs.Pairwise (· < ·)
theorem cut_flat (l : List Int) : ∀ (cs : List Nat) (c : Nat), cs.head? = some c → cs.getLast? = some l.length → cs.Pairwise (· < ·) → (cutP l cs).flatten = l.drop c
  | [], _, h, _, _ => by simp at h
  | [c], c', h, h', _ => by
    simp at h h'
    subst h; subst h'
    simp [cutP]
  | c :: d :: r, c', h, h', hr => by
    simp at h
    subst h
    have hcd : c < d := by
      rw [List.pairwise_cons] at hr
      exact hr.1 d (by simp)
    rw [cutP, List.flatten_cons, cut_flat l (d :: r) d rfl (by simpa using h') (List.pairwise_cons.1 hr).2]
    rw [show l.drop d = (l.drop c).drop (d - c) by rw [List.drop_drop]; congr 1; omega]
    exact List.take_append_drop _ _
theorem OkCut.flat {l : List Int} {cs : List Nat} (h : OkCut l cs) : (cutP l cs).flatten = l := by
  simpa using cut_flat l cs 0 h.z h.e h.r
theorem OkCut.pos {l : List Int} {cs : List Nat} (h : OkCut l cs) : 0 < cs.length := by
  cases cs with
  | nil => have := h.z; simp at this
  | cons => simp
theorem OkCut.mono {l : List Int} {cs : List Nat} (h : OkCut l cs) {i j : Nat} (hij : i < j) (hj : j < cs.length) : cs.getD i 0 < cs.getD j 0 := by
  have := List.pairwise_iff_getElem.1 h.r i j (by omega) hj hij
  simpa [List.getD, List.getElem?_eq_getElem, hj, show i < cs.length by omega] using this
theorem OkCut.le {l : List Int} {cs : List Nat} (h : OkCut l cs) {i j : Nat} (hij : i ≤ j) (hj : j < cs.length) : cs.getD i 0 ≤ cs.getD j 0 := by
  rcases Nat.lt_or_eq_of_le hij with g | rfl
  · exact Nat.le_of_lt (h.mono g hj)
  · exact Nat.le_refl _
theorem OkCut.last {l : List Int} {cs : List Nat} (h : OkCut l cs) : cs.getD (cs.length - 1) 0 = l.length := by
  have := h.e
  rw [List.getLast?_eq_getElem?] at this
  simp [List.getD, this]
theorem OkCut.zero {l : List Int} {cs : List Nat} (h : OkCut l cs) : cs.getD 0 0 = 0 := by
  have := h.z
  rw [List.head?_eq_getElem?] at this
  simp [List.getD, this]
theorem OkCut.at_le {l : List Int} {cs : List Nat} (h : OkCut l cs) {i : Nat} (hi : i < cs.length) : cs.getD i 0 ≤ l.length := by
  rw [← h.last]; exact h.le (by omega) (by omega)
theorem OkCut.len {l : List Int} {cs : List Nat} (h : OkCut l cs) : cs.length ≤ l.length + 1 := by
  have : ∀ i, i < cs.length → i ≤ cs.getD i 0 := by
    intro i
    induction i with
    | zero => intro _; exact Nat.zero_le _
    | succ i ih =>
      intro hi
      have := ih (by omega)
      have := h.mono (i := i) (j := i + 1) (by omega) hi
      omega
  have h1 := this (cs.length - 1) (by have := h.pos; omega)
  rw [h.last] at h1
  omega
/-- the bytes of some pieces in a row -/
theorem OkCut.cut {l : List Int} {cs : List Nat} (h : OkCut l cs) {i : Nat} : ∀ {j : Nat}, i ≤ j → j < cs.length → (((cutP l cs).drop i).take (j - i)).flatten = (l.drop (cs.getD i 0)).take (cs.getD j 0 - cs.getD i 0)
  | 0, hij, hj => by
    obtain rfl : i = 0 := by omega
    simp
  | j + 1, hij, hj => by
    rcases Nat.lt_or_eq_of_le hij with g | rfl
    · have ih := OkCut.cut h (i := i) (j := j) (by omega) (by omega)
      have hg := cutP_get l cs j (by omega)
      have m1 := h.le (i := i) (j := j) (by omega) (by omega)
      have m2 := h.le (i := j) (j := j + 1) (by omega) (by omega)
      rw [show j + 1 - i = (j - i) + 1 by omega, List.take_add_one, List.flatten_append, ih, List.getElem?_drop, show i + (j - i) = j by omega, hg]
      simp only [Option.toList_some, List.flatten_cons, List.flatten_nil, List.append_nil]
      rw [show cs.getD (j + 1) 0 - cs.getD i 0 = (cs.getD j 0 - cs.getD i 0) + (cs.getD (j + 1) 0 - cs.getD j 0) by omega, List.take_add, List.drop_drop, show cs.getD i 0 + (cs.getD j 0 - cs.getD i 0) = cs.getD j 0 by omega]
    · simp

/-- the list of pieces that are known -/
def knoP : List (List Int) → List (List Int) → List (List Int)
  | K, [] => K
  | K, p :: ps => knoP (if p ∈ K then K else K ++ [p]) ps
theorem knoP_app (K ps qs : List (List Int)) : knoP K (ps ++ qs) = knoP (knoP K ps) qs := by
  induction ps generalizing K with
  | nil => rfl
  | cons p ps ih => simp only [List.cons_append, knoP]; exact ih _
theorem knoP_pre : ∀ (ps K : List (List Int)), ∃ r, knoP K ps = K ++ r
  | [], K => ⟨[], by simp [knoP]⟩
  | p :: ps, K => by
    rw [knoP]
    split
    · exact knoP_pre ps K
    · obtain ⟨r, hr⟩ := knoP_pre ps (K ++ [p])
      exact ⟨p :: r, by rw [hr]; simp⟩
theorem knoP_mem : ∀ (ps K : List (List Int)) (p : List Int), p ∈ ps → p ∈ knoP K ps
  | [], _, _, h => by simp at h
  | q :: ps, K, p, h => by
    rw [knoP]
    rcases List.mem_cons.1 h with rfl | h
    · obtain ⟨r, hr⟩ := knoP_pre ps (if p ∈ K then K else K ++ [p])
      rw [hr]
      split
      · rename_i g; exact List.mem_append_left _ g
      · simp
    · exact knoP_mem ps _ p h
theorem knoP_len : ∀ (ps K : List (List Int)), (knoP K ps).length ≤ K.length + ps.length
  | [], _ => by simp [knoP]
  | p :: ps, K => by
    rw [knoP]
    by_cases h : p ∈ K
    · have := knoP_len ps K; rw [if_pos h]; simp; omega
    · have := knoP_len ps (K ++ [p]); rw [if_neg h]; simp at this ⊢; omega
theorem knoP_sub : ∀ (ps K : List (List Int)) (p : List Int), p ∈ knoP K ps → p ∈ K ∨ p ∈ ps
  | [], _, _, h => .inl (by simpa [knoP] using h)
  | q :: ps, K, p, h => by
    rw [knoP] at h
    rcases knoP_sub ps _ p h with h | h
    · split at h
      · exact .inl h
      · rcases List.mem_append.1 h with h | h
        · exact .inl h
        · simp at h; subst h; exact .inr (by simp)
    · exact .inr (by simp [h])
theorem knoP_nodup : ∀ (ps K : List (List Int)), K.Nodup → (knoP K ps).Nodup
  | [], _, h => by simpa [knoP] using h
  | p :: ps, K, h => by
    rw [knoP]
    split
    · exact knoP_nodup ps K h
    · rename_i g
      refine knoP_nodup ps _ ?_
      rw [List.nodup_append]
      refine ⟨h, by simp, fun a ha b hb => ?_⟩
      simp at hb; subst hb
      rintro rfl; exact g ha
theorem ix_app {K r : List (List Int)} {p : List Int} (h : p ∈ K) : (K ++ r).idxOf p = K.idxOf p := by
  rw [List.idxOf_append, if_pos h]
theorem ix_inj {K : List (List Int)} {p q : List Int} (hp : p ∈ K) (hq : q ∈ K) (h : K.idxOf p = K.idxOf q) : p = q := by
  have h1 := List.getElem_idxOf (List.idxOf_lt_length_iff.2 hp)
  have h2 := List.getElem_idxOf (List.idxOf_lt_length_iff.2 hq)
  rw [← h1, ← h2]
  congr 1
/-- the numbers of some pieces -/
def numP (K ps : List (List Int)) : List Nat := ps.map fun p => (knoP K ps).idxOf p
theorem numP_snoc (K ps : List (List Int)) (p : List Int) : numP K (ps ++ [p]) = numP K ps ++ [(knoP K (ps ++ [p])).idxOf p] := by
  unfold numP
  rw [List.map_append, List.map_cons, List.map_nil]
  congr 1
  refine List.map_congr_left fun q hq => ?_
  obtain ⟨r, hr⟩ := knoP_pre [p] (knoP K ps)
  rw [knoP_app, hr, ix_app (knoP_mem ps K q hq)]

section
set_option linter.unusedSectionVars false
variable {α β : Type} [DecidableEq α] [DecidableEq β]
/-- f keeps apart what stands in L -/
def Apart (f : α → β) (L : List α) : Prop := ∀ a ∈ L, ∀ b ∈ L, f a = f b → a = b
omit [DecidableEq α] [DecidableEq β] in
theorem apart_mem {f : α → β} {L M : List α} (h : Apart f L) (hs : ∀ a ∈ M, a ∈ L) : Apart f M := fun a ha b hb => h a (hs a ha) b (hs b hb)
theorem lcs_map (f : α → β) : ∀ (n : Nat) (x y : List α), x.length + y.length ≤ n → Apart f (x ++ y) → lcs (x.map f) (y.map f) = lcs x y
  | _, [], _, _, _ => by simp [lcs]
  | _, _ :: _, [], _, _ => by simp [lcs]
  | 0, _ :: _, _, h, _ => by simp at h
  | n + 1, a :: x, b :: y, h, hf => by
    simp only [List.length_cons] at h
    have m1 : Apart f (x ++ y) := apart_mem hf fun p hp => by simp at hp ⊢; grind
    have m2 : Apart f (x ++ b :: y) := apart_mem hf fun p hp => by simp at hp ⊢; grind
    have m3 : Apart f (a :: x ++ y) := apart_mem hf fun p hp => by simp at hp ⊢; grind
    by_cases e : a = b
    · subst e
      rw [List.map_cons, List.map_cons, lcs_same, lcs_same, lcs_map f n x y (by omega) m1]
    · have e' : ¬ f a = f b := fun g => e (hf a (by simp) b (by simp) g)
      have i1 := lcs_map f n x (b :: y) (by simp; omega) m2
      have i2 := lcs_map f n (a :: x) y (by simp; omega) m3
      rw [List.map_cons] at i1 i2
      rw [List.map_cons, List.map_cons, lcs_ne e', lcs_ne e, i1, i2]
theorem mids_map (f : α → β) : ∀ (n : Nat) (x y : List α) (i j : Nat), x.length + y.length ≤ n → Apart f (x ++ y) → mids (x.map f) (y.map f) i j = mids x y i j
  | _, [], _, _, _, _, _ => by simp [mids]
  | _, _ :: _, [], _, _, _, _ => by simp [mids]
  | 0, _ :: _, _, _, _, h, _ => by simp at h
  | n + 1, a :: x, b :: y, i, j, h, hf => by
    simp only [List.length_cons] at h
    have m1 : Apart f (x ++ y) := apart_mem hf fun p hp => by simp at hp ⊢; grind
    have m2 : Apart f (x ++ b :: y) := apart_mem hf fun p hp => by simp at hp ⊢; grind
    have m3 : Apart f (a :: x ++ y) := apart_mem hf fun p hp => by simp at hp ⊢; grind
    by_cases e : a = b
    · subst e
      rw [List.map_cons, List.map_cons, mids_same, mids_same, mids_map f n x y _ _ (by omega) m1]
    · have e' : ¬ f a = f b := fun g => e (hf a (by simp) b (by simp) g)
      have i1 := lcs_map f n x (b :: y) (by simp; omega) m2
      have i2 := lcs_map f n (a :: x) y (by simp; omega) m3
      have j1 := mids_map f n x (b :: y) (i + 1) j (by simp; omega) m2
      have j2 := mids_map f n (a :: x) y i (j + 1) (by simp; omega) m3
      rw [List.map_cons] at i1 i2 j1 j2
      by_cases g : lcs (a :: x) y ≤ lcs x (b :: y)
      · rw [List.map_cons, List.map_cons, mids_up e' (by rw [i1, i2]; exact g), mids_up e g, j1]
      · rw [List.map_cons, List.map_cons, mids_on e' (by rw [i1, i2]; exact g), mids_on e g, j2]
theorem sameH_map (f : α → β) : ∀ (x y : List α), Apart f (x ++ y) → sameH (x.map f) (y.map f) = sameH x y
  | [], _, _ => by simp [sameH]
  | _ :: _, [], _ => by simp [sameH]
  | a :: x, b :: y, hf => by
    have m1 : Apart f (x ++ y) := apart_mem hf fun p hp => by simp at hp ⊢; grind
    rw [List.map_cons, List.map_cons]
    unfold sameH
    rw [sameH_map f x y m1]
    by_cases e : a = b
    · subst e; simp
    · rw [if_neg e, if_neg fun g => e (hf a (by simp) b (by simp) g)]
theorem runs_map (f : α → β) (x y : List α) (hf : Apart f (x ++ y)) : runsL (x.map f) (y.map f) = runsL x y := by
  have h1 := sameH_map f x y hf
  have h2 := sameH_map f (x.drop (sameH x y)).reverse (y.drop (sameH x y)).reverse (apart_mem hf fun a ha => by
    simp only [List.mem_append, List.mem_reverse] at ha ⊢
    exact ha.imp (fun g => List.mem_of_mem_drop g) (fun g => List.mem_of_mem_drop g))
  unfold runsL
  simp only [h1, ← List.map_drop, ← List.map_reverse, h2, List.length_map, ← List.map_take]
  rw [mids_map f _ _ _ _ _ (Nat.le_refl _)]
  exact apart_mem hf fun a ha => by
    simp only [List.mem_append] at ha ⊢
    exact ha.imp (fun g => List.mem_of_mem_drop (List.mem_of_mem_take g)) (fun g => List.mem_of_mem_drop (List.mem_of_mem_take g))
end
/-- the numbers of two texts' pieces are alike just where the pieces are -/
theorem num_runs (x y : List (List Int)) : runsL (numP [] x) (numP (knoP [] x) y) = runsL x y ∧ lcs (numP [] x) (numP (knoP [] x) y) = lcs x y := by
  have e : knoP (knoP [] x) y = knoP [] (x ++ y) := (knoP_app [] x y).symm
  have hx : numP [] x = x.map fun p => (knoP [] (x ++ y)).idxOf p := by
    unfold numP
    refine List.map_congr_left fun q hq => ?_
    obtain ⟨r, hr⟩ := knoP_pre y (knoP [] x)
    rw [← e, hr, ix_app (knoP_mem x [] q hq)]
  have hy : numP (knoP [] x) y = y.map fun p => (knoP [] (x ++ y)).idxOf p := by unfold numP; rw [e]
  have ha : Apart (fun p => (knoP [] (x ++ y)).idxOf p) (x ++ y) := fun a ha b hb h => ix_inj (knoP_mem _ _ a ha) (knoP_mem _ _ b hb) h
  rw [hx, hy]
  exact ⟨runs_map _ x y ha, lcs_map _ _ x y (Nat.le_refl _) ha⟩
end Go.Proofs.YtkdnanlgkedjgabDoor
