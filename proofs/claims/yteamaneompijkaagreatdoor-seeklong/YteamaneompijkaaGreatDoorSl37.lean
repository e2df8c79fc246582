/- Layer 10, plain: a place that is looked up in a few bytes is that of the whole text; what a beginning's last bytes leave open. · Layer 10, plain: the byte place that settledFrom answers is near enough; what is found there. -/
import Derived.Test.YteamaneompijkaaGreatDoorSl12
import Derived.Test.YteamaneompijkaaGreatDoorSl36
import Derived.Test.YteamaneompijkaaGreatDoorSl27

section
namespace Go.Proofs.YteamaneompijkaaGreatDoor
open Go.ChangeShapes Go.WideShapes Go.ChangeAt Go.RowKit

theorem wid_le4 (L : List Int) : wid L ≤ 4 := by
  cases L with
  | nil => simp [wid, first]
  | cons a r =>
    rw [wid_lng]
    have := lng_le (a :: r)
    split <;> omega
theorem first_fewC {L : List Int} {n : Nat} (h : 4 ≤ n ∨ L.length ≤ n) : first (L.take n) = first L := by
  rcases h with h | h
  · cases L with
    | nil => simp
    | cons a r => exact (first_cut (by simp) (Nat.le_trans (wid_le4 _) h)).1
  · rw [List.take_of_length_le h]
theorem ix_agree {r place : Int} {E F : List Ed} {j : Nat} (hj : j < E.length) (hf : j < F.length) (h : ∀ i, i ≤ j → E.getD i e0 = F.getD i e0) (hp : place ≤ (byE r (E.getD j e0) : Int)) : ixE r place E = ixE r place F ∧ ixE r place E ≤ j := by
  have hle : ixE r place E ≤ j := by
    apply Classical.byContradiction
    intro hh
    have := ix_lt (r := r) (place := place) (E := E) (j := j) (by omega)
    omega
  refine ⟨?_, hle⟩
  symm
  apply ix_is (by omega)
  · intro i hi
    rw [← h i (by omega)]
    exact ix_lt hi
  · intro _
    rw [← h _ hle]
    exact ix_ge (by omega)
theorem fd_agree {r place m : Int} {E F : List Ed} {j : Nat} (hj : j < E.length) (hf : j < F.length) (h : ∀ i, i ≤ j → E.getD i e0 = F.getD i e0) (hp : place ≤ (byE r (E.getD j e0) : Int)) : fdR r place m E = fdR r place m F ∧ fdE r place m E = fdE r place m F := by
  obtain ⟨e, hle⟩ := ix_agree (r := r) (place := place) hj hf h hp
  have hu : upE r place E = upE r place F := by unfold upE; rw [← e]; exact h _ hle
  have hd : dnI r place E = dnI r place F := by unfold dnI; rw [hu, e]
  have hdle : dnI r place E ≤ j := by unfold dnI; split <;> omega
  have hs : selI r place m E = selI r place m F := by unfold selI; rw [e, hd]
  have hsle : selI r place m E ≤ j := by
    unfold selI
    split
    · exact hle
    · exact hdle
  have hi : isPl r place E = isPl r place F := by
    unfold isPl
    rw [← e]
    exact decide_eq_decide.2 ⟨fun x => ⟨x.1, by omega⟩, fun x => ⟨x.1, by omega⟩⟩
  have hR : fdR r place m E = fdR r place m F := by unfold fdR; rw [hi, hu]
  refine ⟨hR, ?_⟩
  unfold fdE
  rw [hR, ← hs]
  split
  · exact h _ hsle
  · rfl
theorem EE_at {l : List Int} {i : Nat} (h : i < (EE l).length) : (EE l).getD i e0 = stE l ((spots l 0).take i) := by
  rw [EE_len] at h
  exact edL_getD _ _ _ (by omega)
/-- edges behind an edge -/
theorem EE_shift {T : List Int} (hl : ∀ x ∈ T, 0 ≤ x ∧ x ≤ 255) {a : Nat} (ha : a < (EE T).length) :
    (EE T).length = a + (EE (T.drop ((EE T).getD a e0).1)).length ∧ ∀ i, i < (EE (T.drop ((EE T).getD a e0).1)).length → (EE T).getD (a + i) e0 = adE ((EE T).getD a e0) ((EE (T.drop ((EE T).getD a e0).1)).getD i e0) := by
  have hk : a ≤ (spots T 0).length := by rw [EE_len] at ha; omega
  obtain ⟨_, h2, _, _⟩ := adds_of hl hk
  have ea := EE_at ha
  rw [← ea] at h2
  generalize hx : ((EE T).getD a e0).1 = x at *
  have hlen := congrArg List.length h2
  rw [List.length_map, List.length_drop] at hlen
  have hE : (EE T).length = a + (EE (T.drop x)).length := by rw [EE_len, EE_len]; omega
  refine ⟨hE, fun i hi => ?_⟩
  rw [EE_at (by omega), EE_at hi]
  have h3 : (spots T 0).take (a + i) = (spots T 0).take a ++ ((spots (T.drop x) 0).take i).map (· + x) := by
    rw [List.take_add, ← h2, List.map_take]
  rw [h3]
  unfold stE
  rw [List.foldl_append]
  have e3 : adE ((EE T).getD a e0) e0 = (EE T).getD a e0 := rfl
  have e4 : ((spots T 0).take a).foldl (nxE T) e0 = (EE T).getD a e0 := ea.symm
  rw [e4]
  have h5 := fold_dropE T x ((EE T).getD a e0) ((spots (T.drop x) 0).take i) e0
  rw [e3] at h5
  exact h5
theorem fd_shift {T : List Int} (hl : ∀ x ∈ T, 0 ≤ x ∧ x ≤ 255) {a : Nat} (ha : a < (EE T).length) {r place m : Int} (hp : (byE r ((EE T).getD a e0) : Int) ≤ place) :
    ixE r place (EE T) = a + ixE r (place - byE r ((EE T).getD a e0)) (EE (T.drop ((EE T).getD a e0).1)) ∧
    fdR r place m (EE T) = fdR r (place - byE r ((EE T).getD a e0)) m (EE (T.drop ((EE T).getD a e0).1)) ∧
    (fdR r place m (EE T) = 0 → fdE r place m (EE T) = adE ((EE T).getD a e0) (fdE r (place - byE r ((EE T).getD a e0)) m (EE (T.drop ((EE T).getD a e0).1)))) := by
  obtain ⟨hlen, hsh⟩ := EE_shift hl ha
  have hinc := inc_EE hl r
  have hd : ∀ x ∈ T.drop ((EE T).getD a e0).1, 0 ≤ x ∧ x ≤ 255 := fun x hx => hl x (List.mem_of_mem_drop hx)
  have hinc' := inc_EE hd r
  generalize hE' : EE (T.drop ((EE T).getD a e0).1) = E' at *
  generalize hee : (EE T).getD a e0 = e at *
  generalize hpp : place - (byE r e : Int) = pp at *
  have hkl : ixE r pp E' ≤ E'.length := List.findIdx_le_length
  have hix : ixE r place (EE T) = a + ixE r pp E' := by
    apply ix_is (by omega)
    · intro j hj
      by_cases hja : j < a
      · have := hinc.2.2 j a hja ha
        rw [hee] at this
        omega
      · have h1 := hsh (j - a) (by omega)
        rw [show a + (j - a) = j by omega] at h1
        rw [h1, byE_ad]
        have := ix_lt (r := r) (place := pp) (E := E') (j := j - a) (by omega)
        push_cast
        omega
    · intro hk
      have h1 := hsh (ixE r pp E') (by omega)
      rw [h1, byE_ad]
      have : pp ≤ (byE r (E'.getD (ixE r pp E') e0) : Int) := ix_ge (by omega)
      push_cast
      omega
  refine ⟨hix, ?_⟩
  have hpl : isPl r place (EE T) = isPl r pp E' := by
    unfold isPl
    rw [hix]
    exact decide_eq_decide.2 ⟨fun x => ⟨by omega, by omega⟩, fun x => ⟨by omega, by omega⟩⟩
  cases hb : isPl r pp E' with
  | false =>
    have h1 : fdR r place m (EE T) = 2 := by unfold fdR; rw [hpl, hb]; rfl
    have h2 : fdR r pp m E' = 2 := by unfold fdR; rw [hb]; rfl
    refine ⟨by rw [h1, h2], fun h => ?_⟩
    rw [h1] at h; cases h
  | true =>
    have hk : ixE r pp E' < E'.length := (of_decide_eq_true (show decide (0 ≤ pp ∧ ixE r pp E' < E'.length) = true from hb)).2
    have hu : upE r place (EE T) = adE e (upE r pp E') := by
      unfold upE
      rw [hix]
      exact hsh _ hk
    have hby : (byE r (upE r place (EE T)) : Int) = place ↔ (byE r (upE r pp E') : Int) = pp := by
      rw [hu, byE_ad]
      push_cast
      omega
    have hR : fdR r place m (EE T) = fdR r pp m E' := by
      unfold fdR
      rw [hpl, hb]
      by_cases hc : (byE r (upE r pp E') : Int) = pp
      · rw [if_pos rfl, if_pos rfl, if_pos (.inl (hby.2 hc)), if_pos (.inl hc)]
      · by_cases hm : m = 1 ∨ m = 2
        · rw [if_pos rfl, if_pos rfl, if_pos (.inr hm), if_pos (.inr hm)]
        · rw [if_pos rfl, if_pos rfl, if_neg (fun h => h.elim (fun h => hc (hby.1 h)) hm), if_neg (fun h => h.elim hc hm)]
    refine ⟨hR, fun h0 => ?_⟩
    have hs : selI r place m (EE T) = a + selI r pp m E' ∧ selI r pp m E' < E'.length := by
      unfold selI
      split
      · exact ⟨hix, hk⟩
      · unfold dnI
        by_cases hc : (byE r (upE r pp E') : Int) = pp
        · rw [if_pos (hby.2 hc), if_pos hc]
          exact ⟨hix, hk⟩
        · rw [if_neg (fun h => hc (hby.1 h)), if_neg hc, hix]
          have h1 : 1 ≤ ixE r pp E' := by
            apply Classical.byContradiction
            intro hh
            have hz : ixE r pp E' = 0 := by omega
            have hup : upE r pp E' = e0 := by unfold upE; rw [hz]; exact hinc'.1
            have h2 := ix_ge hk
            rw [hup, by_e0] at h2 hc
            omega
          omega
    unfold fdE
    rw [if_pos h0, ← hR, if_pos h0, hs.1]
    exact hsh _ hs.2
theorem win_pre {T : List Int} {near k : Nat} (hk : k = min T.length (near + 4)) : ∀ (pre : List Nat) (p : Nat), pre <+: spots T p → (∀ x ∈ pre, x ≤ near) → pre <+: spots (T.take k) p
  | [], _, _, _ => List.nil_prefix
  | x :: pre, p, h, hx => by
    by_cases hp : p < T.length
    · rw [spots_cons hp] at h
      obtain ⟨rfl, h'⟩ := List.cons_prefix_cons.1 h
      have hxn := hx x (List.mem_cons_self ..)
      have hpl : x < (T.take k).length := by rw [List.length_take]; omega
      have hw : wid ((T.take k).drop x) = wid (T.drop x) := by
        unfold wid
        rw [List.drop_take, first_fewC (by rw [List.length_drop]; omega)]
      rw [spots_cons hpl, hw]
      exact List.cons_prefix_cons.2 ⟨rfl, win_pre hk pre _ h' (fun y hy => hx y (List.mem_cons_of_mem _ hy))⟩
    · rw [spots_end hp] at h
      simp at h
theorem win_st {T : List Int} {near k : Nat} (hk : k = min T.length (near + 4)) : ∀ (pre : List Nat) (e : Ed), (∀ x ∈ pre, x ≤ near) → pre.foldl (nxE (T.take k)) e = pre.foldl (nxE T) e
  | [], _, _ => rfl
  | x :: pre, e, hx => by
    have hxn := hx x (List.mem_cons_self ..)
    have hf : first ((T.take k).drop x) = first (T.drop x) := by rw [List.drop_take, first_fewC (by rw [List.length_drop]; omega)]
    have hn : nxE (T.take k) e x = nxE T e x := by unfold nxE wid; rw [hf]
    rw [List.foldl_cons, List.foldl_cons, hn]
    exact win_st hk pre _ (fun y hy => hx y (List.mem_cons_of_mem _ hy))
theorem win_EE {T : List Int} {near k j : Nat} (hk : k = min T.length (near + 4)) (hj : j < (EE T).length) (hx : ∀ x ∈ (spots T 0).take j, x ≤ near) :
    j < (EE (T.take k)).length ∧ ∀ i, i ≤ j → (EE (T.take k)).getD i e0 = (EE T).getD i e0 := by
  have hp := win_pre hk ((spots T 0).take j) 0 (List.take_prefix _ _) hx
  rw [EE_len] at hj
  have hl : ((spots T 0).take j).length = j := by rw [List.length_take]; omega
  have hl2 := hp.length_le
  rw [hl] at hl2
  have hlen : j < (EE (T.take k)).length := by rw [EE_len]; omega
  refine ⟨hlen, fun i hi => ?_⟩
  rw [EE_at (by omega), EE_at (by rw [EE_len]; omega)]
  have e1 : (spots (T.take k) 0).take i = (spots T 0).take i := by
    obtain ⟨s, hs⟩ := hp
    rw [← hs, List.take_append_of_le_length (by omega), List.take_take, Nat.min_eq_left hi]
  rw [e1]
  exact win_st hk _ _ (fun x h => hx x (by
    rw [show i = min i j by omega, ← List.take_take] at h
    exact List.mem_of_mem_take h))
/-- a step begins at an edge -/
theorem spot_edge {l : List Int} (hl : ∀ x ∈ l, 0 ≤ x ∧ x ≤ 255) {j : Nat} {x : Nat} (hx : x ∈ (spots l 0).take j) : ∃ i, i < j ∧ i < (spots l 0).length ∧ ((EE l).getD i e0).1 = x := by
  obtain ⟨i, hi, rfl⟩ := List.mem_iff_getElem.1 hx
  rw [List.length_take] at hi
  refine ⟨i, by omega, by omega, ?_⟩
  rw [EE_at (by rw [EE_len]; omega)]
  have hpre : (spots l 0).take i ++ [((spots l 0).take j)[i]] <+: spots l 0 := by
    rw [List.getElem_take]
    have := List.take_prefix (i + 1) (spots l 0)
    rwa [List.take_succ_eq_append_getElem (by omega)] at this
  exact (st_next hl hpre).1.symm
/-- a place, looked up in the bytes about it -/
theorem find_win {T : List Int} (hl : ∀ x ∈ T, 0 ≤ x ∧ x ≤ 255) {r m place : Int} {a near : Nat} (ha : a < (EE T).length) (hp : (byE r ((EE T).getD a e0) : Int) ≤ place) (hlt : ixE r place (EE T) < (EE T).length)
    (hlo : ((EE T).getD a e0).1 ≤ near) (hq : ∀ i, i < ixE r place (EE T) → ((EE T).getD i e0).1 ≤ near) :
    fdR r (place - byE r ((EE T).getD a e0)) m (EE ((T.drop ((EE T).getD a e0).1).take (min T.length (near + 4) - ((EE T).getD a e0).1))) = fdR r place m (EE T) ∧
    (fdR r place m (EE T) = 0 → (fdE r place m (EE T)).1 = ((EE T).getD a e0).1 + (fdE r (place - byE r ((EE T).getD a e0)) m (EE ((T.drop ((EE T).getD a e0).1).take (min T.length (near + 4) - ((EE T).getD a e0).1)))).1) := by
  obtain ⟨h1, h2, h3⟩ := fd_shift (m := m) hl ha hp
  obtain ⟨hlen, hsh⟩ := EE_shift hl ha
  have hd : ∀ x ∈ T.drop ((EE T).getD a e0).1, 0 ≤ x ∧ x ≤ 255 := fun x hx => hl x (List.mem_of_mem_drop hx)
  generalize hx : ((EE T).getD a e0).1 = lo at *
  have hk : min T.length (near + 4) - lo = min (T.drop lo).length (near - lo + 4) := by rw [List.length_drop]; omega
  generalize hpp : place - (byE r ((EE T).getD a e0) : Int) = pp at *
  have hj : ixE r pp (EE (T.drop lo)) < (EE (T.drop lo)).length := by omega
  obtain ⟨w1, w2⟩ := win_EE hk hj (fun x hxm => by
    obtain ⟨i, i1, i2, rfl⟩ := spot_edge hd hxm
    have h4 := hq (a + i) (by omega)
    rw [hsh i (by rw [EE_len]; omega)] at h4
    have h5 : (adE ((EE T).getD a e0) ((EE (T.drop lo)).getD i e0)).1 = lo + ((EE (T.drop lo)).getD i e0).1 := by rw [← hx]; rfl
    omega)
  obtain ⟨f1, f2⟩ := fd_agree (r := r) (place := pp) (m := m) hj w1 (fun i hi => (w2 i hi).symm) (ix_ge hj)
  rw [← f1, ← f2]
  refine ⟨h2.symm, fun h0 => ?_⟩
  rw [h3 h0]
  rw [← hx]
  rfl

/-- what is counted of steps that were told -/
def nxT (e : Ed) (t : Tri) : Ed := (e.1 + t.2.1, e.2.1 + 1, e.2.2 + (ulen t.1).toNat)
theorem st_steps (l : List Int) (i : Nat) : stE l ((spots l 0).take i) = ((stepsL l).take i).foldl nxT e0 := by
  unfold stepsL stE
  rw [← List.map_take, List.foldl_map]
  rfl
theorem fold_bad (e : Ed) : ∀ n : Nat, (List.replicate n badT).foldl nxT e = (e.1 + n, e.2.1 + n, e.2.2 + n)
  | 0 => rfl
  | n + 1 => by
    rw [List.replicate_succ', List.foldl_append, fold_bad e n]
    rfl
/-- the steps of a beginning that stay whatever follows, and how many bytes at its end may still become one -/
theorem settled {T : List Int} (hl : ∀ x ∈ T, 0 ≤ x ∧ x ≤ 255) (n : Nat) (hn : n ≤ T.length) :
    ∃ k, k < (EE T).length ∧ ((EE T).getD k e0).1 + leftL (T.take n) = n ∧ leftL (T.take n) ≤ 3 ∧ ∀ u, isRu u = true → szE u (T.take n) = byE u ((EE T).getD k e0) + leftL (T.take n) := by
  have hel : Hel [] := .inl rfl
  obtain ⟨c0, e1, e2, _⟩ := scanS_text (T.take n) hel
  have hs := fun c => scanS_steps (T.take n) hel c
  have hh := scanS_hel (T.take n) hel
  have hlf := left_held (h := []) (b := T.take n) hel
  rw [List.nil_append] at hlf e1
  have hs1 := hs (T.drop n)
  have hs2 := hs []
  rw [List.nil_append, List.take_append_drop] at hs1
  rw [List.nil_append, List.append_nil, List.append_nil] at hs2
  generalize (scanS [] (T.take n)).2 = h at *
  rw [e2] at hs1 hs2
  rw [hlf]
  have hc0 : ∀ x ∈ c0, 0 ≤ x ∧ x ≤ 255 := fun x hx => hl x (List.mem_of_mem_take (by rw [e1]; exact List.mem_append_left _ hx))
  have hT : ∀ x ∈ T.take n, 0 ≤ x ∧ x ≤ 255 := fun x hx => hl x (List.mem_of_mem_take hx)
  have hlenT : (EE T).length = (stepsL T).length + 1 := by rw [EE_len]; simp [stepsL]
  have hk : (stepsL c0).length < (EE T).length := by rw [hlenT, hs1, List.length_append]; omega
  have hst : (EE T).getD (stepsL c0).length e0 = stE c0 (spots c0 0) := by
    rw [EE_at hk, st_steps, hs1, List.take_left]
    have := st_steps c0 (spots c0 0).length
    rw [List.take_length] at this
    rw [this, show (spots c0 0).length = (stepsL c0).length by simp [stepsL], List.take_length]
  have hlen := congrArg List.length e1
  rw [List.length_append, List.length_take, Nat.min_eq_left hn] at hlen
  refine ⟨(stepsL c0).length, hk, ?_, ?_, fun u hu => ?_⟩
  · rw [hst, st_full hc0]; omega
  · rcases hh with rfl | hp
    · simp
    · exact (prop_len hp).2
  · have hb : stepsL h = List.replicate h.length badT := by
      rcases hh with rfl | hp
      · exact stepsL_nil
      · exact steps_prop hp
    have h1 : stE (T.take n) (spots (T.take n) 0) = (List.replicate h.length badT).foldl nxT (stE c0 (spots c0 0)) := by
      have a1 := st_steps (T.take n) (spots (T.take n) 0).length
      rw [List.take_length] at a1
      have a2 := st_steps c0 (spots c0 0).length
      rw [List.take_length] at a2
      rw [a1, a2, show (spots (T.take n) 0).length = (stepsL (T.take n)).length by simp [stepsL], show (spots c0 0).length = (stepsL c0).length by simp [stepsL], List.take_length, List.take_length, hs2, List.foldl_append, hb]
    unfold szE
    rw [hu, if_pos rfl, hst, h1, fold_bad]
    unfold byE
    split
    · rfl
    · split <;> rfl
theorem left_tail (t : List Int) : leftL (t.drop (t.length - 3)) = leftL t := by
  by_cases h : 3 ≤ t.length
  · have hl : (t.drop (t.length - 3)).length = 3 := by rw [List.length_drop]; omega
    unfold leftL
    rw [hl, List.drop_drop, List.drop_drop, List.drop_drop, show t.length - 3 + (3 - 3) = t.length - 3 by omega, show t.length - 3 + (3 - 2) = t.length - 2 by omega, show t.length - 3 + (3 - 1) = t.length - 1 by omega]
    simp only [show (3 ≤ t.length) = True from eq_true h, show (2 ≤ t.length) = True from eq_true (by omega), show (1 ≤ t.length) = True from eq_true (by omega), show ((3 : Nat) ≤ 3) = True from eq_true (by omega), show ((2 : Nat) ≤ 3) = True from eq_true (by omega), show ((1 : Nat) ≤ 3) = True from eq_true (by omega)]
  · rw [show t.length - 3 = 0 by omega, List.drop_zero]

end Go.Proofs.YteamaneompijkaaGreatDoor
end

section
namespace Go.Proofs.YteamaneompijkaaGreatDoor
open Go.ChangeShapes Go.WideShapes Go.ChangeAt Go.RowKit

/-- what settledFrom asks of a beginning -/
def setB (u place : Int) (l : List Int) : Bool := decide (place ≤ (szE u l : Int) - (leftL l : Int))
/-- near: the place about which is looked -/
def NearA (T : List Int) (u place : Int) (near : Nat) : Prop := (u = 1 ∧ place = (near : Int)) ∨ (¬ u = 1 ∧ ∃ n : Int, FirA (setB u place) T n ∧ (near : Int) = if n < 0 then (T.length : Int) else n)
theorem EE_bytes {T : List Int} (hl : ∀ x ∈ T, 0 ≤ x ∧ x ≤ 255) {i : Nat} (h : i < (EE T).length) : ((EE T).getD i e0).1 ≤ T.length := by
  have h1 := (inc_EE hl 1).le (i := i) (j := (EE T).length - 1) (by omega) (by omega)
  rw [EE_last] at h1
  have h2 := st_full hl
  have e : ∀ d : Ed, byE 1 d = d.1 := fun d => rfl
  rw [e, e, h2] at h1
  exact h1
theorem by_last {T : List Int} {u : Int} (hu : isRu u = true) : byE u ((EE T).getD ((EE T).length - 1) e0) = szE u T := by
  rw [EE_last]
  unfold szE
  rw [hu, if_pos rfl]
/-- about such a place all that is wanted lies in four bytes each way -/
theorem near_ok {T : List Int} (hl : ∀ x ∈ T, 0 ≤ x ∧ x ≤ 255) {u place : Int} {near : Nat} (hu : isRu u = true) (h0 : 0 ≤ place) (h1 : place ≤ (szE u T : Int)) (hN : NearA T u place near) :
    near ≤ T.length ∧ ixE u place (EE T) < (EE T).length ∧ (∀ i, i < ixE u place (EE T) → ((EE T).getD i e0).1 ≤ near) ∧
    ∃ a, a < (EE T).length ∧ ((EE T).getD a e0).1 = flr T (near - 4) ∧ (byE u ((EE T).getD a e0) : Int) ≤ place := by
  have hinc := inc_EE hl u
  have hinc1 := inc_EE hl 1
  have e1 : ∀ d : Ed, byE 1 d = d.1 := fun d => rfl
  have hpl := (isPl_iff hinc (place := place)).2 ⟨h0, by rw [by_last hu]; exact h1⟩
  have hix : ixE u place (EE T) < (EE T).length := (of_decide_eq_true (show decide (0 ≤ place ∧ ixE u place (EE T) < (EE T).length) = true from hpl)).2
  have key : near ≤ T.length ∧ (∀ i, i < ixE u place (EE T) → ((EE T).getD i e0).1 ≤ near) ∧ ((ixE u place (EE T) = 0 ∧ near = 0) ∨ (u = 1 ∧ place = (near : Int)) ∨ (1 ≤ ixE u place (EE T) ∧ near ≤ ((EE T).getD (ixE u place (EE T) - 1) e0).1 + 4)) := by
    rcases hN with ⟨rfl, hp⟩ | ⟨hne, n, hF, hnear⟩
    · rw [sz_bytes hl] at h1
      refine ⟨by omega, fun i hi => ?_, .inr (.inl ⟨rfl, hp⟩)⟩
      have := ix_lt hi
      rw [e1] at this
      omega
    · have hlow : ∀ n : Nat, n ≤ T.length → setB u place (T.take n) = false → ∃ k, ((EE T).getD k e0).1 + 3 ≥ n ∧ k < ixE u place (EE T) := by
        intro n hn hb
        obtain ⟨k, k1, k2, k3, k4⟩ := settled hl n hn
        have hb' : ¬ place ≤ (szE u (T.take n) : Int) - (leftL (T.take n) : Int) := of_decide_eq_false hb
        rw [k4 u hu] at hb'
        push_cast at hb'
        refine ⟨k, by omega, ?_⟩
        apply Classical.byContradiction
        intro hh
        have h2 := hinc.le (i := ixE u place (EE T)) (j := k) (by omega) k1
        have h3 : place ≤ (byE u ((EE T).getD (ixE u place (EE T)) e0) : Int) := ix_ge hix
        omega
      have hup : ∀ n : Nat, n ≤ T.length → setB u place (T.take n) = true → ((EE T).getD (ixE u place (EE T)) e0).1 ≤ n := by
        intro n hn hb
        obtain ⟨k, k1, k2, k3, k4⟩ := settled hl n hn
        have hb' : place ≤ (szE u (T.take n) : Int) - (leftL (T.take n) : Int) := of_decide_eq_true hb
        rw [k4 u hu] at hb'
        push_cast at hb'
        have hk : ixE u place (EE T) ≤ k := by
          apply Classical.byContradiction
          intro hh
          have := ix_lt (r := u) (place := place) (E := EE T) (j := k) (by omega)
          omega
        have := hinc1.le hk k1
        rw [e1, e1] at this
        omega
      have hbel : ∀ i, i < ixE u place (EE T) → ((EE T).getD i e0).1 ≤ ((EE T).getD (ixE u place (EE T)) e0).1 := fun i hi => by
        have := hinc1.le (i := i) (j := ixE u place (EE T)) (by omega) hix
        rwa [e1, e1] at this
      have hprev : ∀ k, k < ixE u place (EE T) → ((EE T).getD k e0).1 ≤ ((EE T).getD (ixE u place (EE T) - 1) e0).1 := fun k hk => by
        have := hinc1.le (i := k) (j := ixE u place (EE T) - 1) (by omega) (by omega)
        rwa [e1, e1] at this
      rcases hF with ⟨hp0, rfl⟩ | ⟨hp0, hpT, rfl⟩ | ⟨hp0, m, rfl, m1, m2, m3, m4⟩
      · have hz : near = 0 := by simp at hnear; omega
        subst hz
        have hle := hup 0 (Nat.zero_le _) (by rw [List.take_zero]; exact hp0)
        have hix0 : ixE u place (EE T) = 0 := by
          apply Classical.byContradiction
          intro hh
          have := hinc1.2.2 0 (ixE u place (EE T)) (by omega) hix
          rw [e1, e1] at this
          omega
        exact ⟨Nat.zero_le _, fun i hi => by omega, .inl ⟨hix0, rfl⟩⟩
      · have hz : near = T.length := by simp at hnear; omega
        subst hz
        obtain ⟨k, k1, k2⟩ := hlow T.length (Nat.le_refl _) (by rw [List.take_length]; exact hpT)
        have := hprev k k2
        exact ⟨Nat.le_refl _, fun i hi => EE_bytes hl (by omega), .inr (.inr ⟨by omega, by omega⟩)⟩
      · have hz : near = m := by rw [if_neg (by omega)] at hnear; omega
        subst hz
        obtain ⟨k, k1, k2⟩ := hlow (near - 1) (by omega) m3
        have h5 := hprev k k2
        have h6 := hup near m2 m4
        exact ⟨m2, fun i hi => Nat.le_trans (hbel i hi) h6, .inr (.inr ⟨by omega, by omega⟩)⟩
  obtain ⟨k1, k2, k3⟩ := key
  refine ⟨k1, hix, k2, ?_⟩
  have hf := flr_le T (near - 4)
  obtain ⟨a, a1, a2⟩ := edge_ix hl (p := flr T (near - 4)) (by omega) (flr_edge T _)
  refine ⟨a, a1, a2, ?_⟩
  rcases k3 with ⟨z1, z2⟩ | ⟨rfl, hp⟩ | ⟨z1, z2⟩
  · subst z2
    have hz : flr T (0 - 4) = 0 := by omega
    rw [hz] at a2
    have ha0 : a = 0 := by
      apply Classical.byContradiction
      intro hh
      have := hinc1.2.2 0 a (by omega) a1
      rw [e1, e1] at this
      omega
    rw [ha0, hinc.1, by_e0]
    omega
  · rw [e1, a2]; omega
  · have hle : a ≤ ixE u place (EE T) - 1 := by
      apply Classical.byContradiction
      intro hh
      have := hinc1.2.2 (ixE u place (EE T) - 1) a (by omega) a1
      rw [e1, e1] at this
      omega
    have h7 := hinc.le hle (by omega)
    have h8 := ix_lt (r := u) (place := place) (E := EE T) (j := ixE u place (EE T) - 1) (by omega)
    omega
/-- what find answers: as rule.To of the whole text -/
theorem find_ok {T : List Int} (hl : ∀ x ∈ T, 0 ≤ x ∧ x ≤ 255) {u place m : Int} {near : Nat} (hu : isRu u = true) (hm : isRu m = true) (h0 : 0 ≤ place) (h1 : place ≤ (szE u T : Int)) (hN : NearA T u place near) :
    toR u (place - (szE u (T.take (flr T (near - 4))) : Int)) 1 m (EE ((T.drop (flr T (near - 4))).take (min T.length (near + 4) - flr T (near - 4)))) = fdR u place m (EE T) ∧
    (fdR u place m (EE T) = 0 → flr T (near - 4) + toP u (place - (szE u (T.take (flr T (near - 4))) : Int)) 1 m (EE ((T.drop (flr T (near - 4))).take (min T.length (near + 4) - flr T (near - 4)))) = (fdE u place m (EE T)).1) := by
  obtain ⟨k1, k2, k3, a, a1, a2, a3⟩ := near_ok hl hu h0 h1 hN
  have hf := flr_le T (near - 4)
  obtain ⟨w1, w2⟩ := find_win (m := m) (near := near) hl a1 a3 k2 (by omega) k3
  have hs : szE u (T.take (flr T (near - 4))) = byE u ((EE T).getD a e0) := by rw [← a2]; exact sz_take hl hu a1
  rw [hs]
  rw [a2] at w1 w2
  have hc : (isRu u && (isRu 1 && isRu m)) = true := by rw [hu, hm]; rfl
  unfold toR toP
  rw [if_pos hc, if_pos hc, w1]
  refine ⟨rfl, fun h => ?_⟩
  rw [w2 h]
  rfl

end Go.Proofs.YteamaneompijkaaGreatDoor
end
