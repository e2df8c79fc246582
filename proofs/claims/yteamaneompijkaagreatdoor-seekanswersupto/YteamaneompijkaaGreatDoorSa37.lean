/- Layer 10: contracts of seek's ending, begin, Line. · Layer 10, plain: a place that is looked up in a few bytes is that of the whole text; what a beginning's last bytes leave open. -/
import Derived.Test.YteamaneompijkaaGreatDoorSa36
import Derived.Test.YteamaneompijkaaGreatDoorSa15
import Derived.Test.YteamaneompijkaaGreatDoorSa07
namespace Go.Proofs.YteamaneompijkaaGreatDoor
open Go.ChangeShapes Go.WideShapes Go.ChangeAt Go.RowKit
set_option maxRecDepth 100000
set_option maxHeartbeats 8000000
section
attribute [local go_sem] Oper.semAt_some
theorem endf10_at (l : List Int) (k : Int) (gk : Nat) (w : World) (hk : Cb w gk 3 (.int .i64 k)) :
    Calls Tryz.prog 99 #[weV (ofL l), .pointer (some ⟨gk, 0, none⟩)] w fun y w' => y = .returned (.bool (decide (k < endsN l))) ∧ Below w.heap.size w w' := by
  rw [weq9]
  have hz : (szL l).e = endsN l := rfl
  generalize (szL l).b = zb at *
  generalize (szL l).r = zr at *
  generalize (szL l).u = zu at *
  rw [hz]
  clear hz
  generalize strOfNums (List.take 3 l) = zh at *
  generalize strOfNums (tail3 l) = zt at *
  generalize endsN l = ze at *
  have b0 := (Below.refl w.heap.size w).alloc (Nat.le_refl _) (.cells #[.int .i64 zb, .int .i64 zr, .int .i64 zu, .int .i64 ze, .string zh, .string zt] 47)
  have g0 := push_get w (.cells #[.int .i64 zb, .int .i64 zr, .int .i64 zu, .int .i64 ze, .string zh, .string zt] 47)
  obtain ⟨c0, c1, c2, c3, c4, c5, _⟩ := cells6 g0
  have k1 := (hk.on b0).cell
  have HB := hide b0
  clear b0 g0 hk
  go_enter Tryz.func99, Tryz.ntmps99
  go_upto_region 1 with fail
  generalize w.alloc (.cells #[.int .i64 zb, .int .i64 zr, .int .i64 zu, .int .i64 ze, .string zh, .string zt] 47) = w0 at *
  go_wp2_with fail
  go_ret
  exact ⟨ret_bool rfl, unhide HB⟩
theorem bytes_of {w : World} {g : Nat} {o : Option Nd} (h : IsRo w g o) : ∀ x ∈ txtO o, 0 ≤ x ∧ x ≤ 255 := by
  obtain ⟨v, _, h2⟩ := h
  cases o with
  | none => intro x hx; cases hx
  | some t => exact IsNd.bytes h2
theorem RoVro {w : World} {g : Nat} {o : Option Nd} (h : IsRo w g o) : RoV w (.pointer (some ⟨g, 0, none⟩)) o := by
  obtain ⟨v, h1, h2⟩ := h
  exact ⟨v, Or.inr ⟨g, rfl, h1⟩, h2⟩
theorem end_win {T : List Int} {m : Nat} (hml : m < T.length) (hnl : isNl (T.getD m 0) = true) : nbr ((T.drop m).take (min T.length (m + 2) - m)) 0 = some (0, 0, 0, edw (T.drop m)) := by
  have he := edw_take (T.drop m) (min T.length (m + 2) - m) (by rw [List.length_drop]; omega)
  have hc : T.drop m = T.getD m 0 :: T.drop (m + 1) := by
    rw [List.drop_eq_getElem_cons hml, List.getD_eq_getElem?_getD, List.getElem?_eq_getElem hml]; rfl
  obtain ⟨q, hq⟩ : ∃ q, min T.length (m + 2) - m = q + 1 := ⟨min T.length (m + 2) - m - 1, by omega⟩
  rw [← he, hq, hc, List.take_succ_cons]
  exact nbr_end hnl
theorem ending10_at (g : Nat) (o : Option Nd) (k : Nat) (w : World) (h : IsRo w g o) (hk : k < (LN (txtO o)).length) (hm : (txtO o).length ≤ 268435456) (hW : Wt w) :
    Calls Tryz.prog 63 #[.pointer (some ⟨g, 0, none⟩), .int .i64 (k : Int)] w fun y w' => y = .returned (.tuple #[.int .i64 (((LN (txtO o)).getD k z4).2.2.1 : Int), .int .i64 (((LN (txtO o)).getD k z4).2.2.2 : Int)]) ∧ Below w.heap.size w w' := by
  have hb := bytes_of h
  have b0 := (Below.refl w.heap.size w).alloc (Nat.le_refl _) (.cells #[.int .i64 (k : Int)] 3)
  have k0 := Cb.new w 3 (.int .i64 (k : Int))
  obtain ⟨N, hN⟩ : ∃ N, N = (txtO o).length := ⟨_, rfl⟩
  have HR := hide fun (X : World) (hx : Below w.heap.size w X) => h.on hx
  have HW := hide fun (X : World) (hx : Below w.heap.size w X) => hW.below hx
  have HNN := hide hN
  have HN := hide (fun n => en_ln (T := txtO o) (k := k) (n := n) hk)
  have HM := hide hm
  have HY := hide hb
  have HL := hide fun (X : World) (hx : Below w.heap.size w X) => hN ▸ Len9_at g o X (h.on hx)
  have HF := hide fun (X : World) (hx : Below w.heap.size w X) (hc : Cb X w.heap.size 3 (.int .i64 (k : Int))) => First9_at (.pointer (some ⟨g, 0, none⟩)) o 99 #[.pointer (some ⟨w.heap.size, 0, none⟩)] (fun l => decide ((k : Int) < endsN l)) X (RoVro (h.on hx)) hm (hW.below hx) (enters_of Tryz.func99 (by kernel_rfl) rfl)
    (fun j Y _ hy => endf10_at _ (k : Int) w.heap.size Y (hc.on hy))
  have HB := hide fun (X : World) (hx : Below w.heap.size w X) (lo hi : Nat) (h1 : lo ≤ hi) (h2 : hi ≤ (txtO o).length) => BytesR9_at g o lo hi X (h.on hx) h1 h2 hm
  generalize hcv : (((LN (txtO o)).getD k z4).2.2.1 : Int) = cv at *
  generalize hnv : (((LN (txtO o)).getD k z4).2.2.2 : Int) = nv at *
  clear h hW hb hm hk hN hcv hnv
  go_enter Tryz.func63, Tryz.ntmps63
  go_upto_region 1 with fail
  generalize w.alloc (.cells #[.int .i64 (k : Int)] 3) = w0 at *
  go_wp2_with fail
  refine (unhide HL w0 b0).mono ?_
  rintro y w1 ⟨rfl, x1⟩
  dsimp only
  have X1 := b0.trans (x1.mono b0.size)
  have k1 := k0.on x1
  have HF1 := hide (unhide HF w1 X1 k1)
  go_wp2_with fail
  refine (unhide HF1).mono ?_
  rintro y w2 ⟨n, rfl, hn, x2⟩
  dsimp only
  have X2 := X1.trans (x2.mono (X1.size))
  obtain ⟨e1, e2⟩ := unhide HN n hn
  clear HF HF1 hn
  by_cases h0 : n < 0
  · have d0 : decide (n < 0) = true := decide_eq_true h0
    have e3 : enP (txtO o) n = ((N : Int), (N : Int)) := by unfold enP; rw [if_pos h0, unhide HNN]
    rw [e3] at e1
    have E1 := hide e1
    clear e1 e2 e3 h0
    go_wp2_with fail
    refine bodyPost_ret (results_tmp2 rfl _ _ _) rfl ?_
    refine ⟨?_, X2⟩
    have := unhide E1
    simp only [Prod.mk.injEq] at this
    rw [← this.1, ← this.2]
    rfl
  · have d0 : decide (n < 0) = false := decide_eq_false h0
    obtain ⟨m, rfl, hml, hnl⟩ := e2 (by omega)
    have e3 : enP (txtO o) ((m : Int) + 1) = ((m : Int), (m : Int) + (edw ((txtO o).drop m) : Int)) := by
      unfold enP
      rw [if_neg h0, show ((m : Int) + 1).toNat - 1 = m by omega, show (m : Int) + 1 - 1 = (m : Int) by omega]
    rw [e3] at e1
    have E1 := hide e1
    have hedw := edw_pos ((txtO o).drop m)
    have hnn := unhide HNN
    have hmm := unhide HM
    obtain ⟨d, hd⟩ : ∃ d, d = edw ((txtO o).drop m) := ⟨_, rfl⟩
    obtain ⟨hi, hhi⟩ : ∃ hi, hi = min (txtO o).length (m + 2) := ⟨_, rfl⟩
    have w1' : wrap64 (m : Int) = (m : Int) := wrap_in _ (by omega) (by omega)
    have w2' : wrap64 ((m : Int) + 2) = (m : Int) + 2 := wrap_in _ (by omega) (by omega)
    have w3' : min (N : Int) ((m : Int) + 2) = (hi : Int) := by omega
    have w4' : wrap64 ((m : Int) + (d : Int)) = (m : Int) + (d : Int) := wrap_in _ (by omega) (by omega)
    have hB := unhide HB w2 X2 m hi (by omega) (by omega)
    have hwl : (((txtO o).drop m).take (hi - m)).length ≤ 268435456 := by rw [List.length_take]; omega
    have hnb : nbr (((txtO o).drop m).take (hi - m)) 0 = some (0, 0, 0, d) := by rw [hhi, hd]; exact end_win hml hnl
    have hyb : ∀ x ∈ ((txtO o).drop m).take (hi - m), 0 ≤ x ∧ x ≤ 255 := fun x hx => unhide HY x (List.mem_of_mem_drop (List.mem_of_mem_take hx))
    generalize ((txtO o).drop m).take (hi - m) = L at *
    have HB2 := hide hB
    have HNB := hide hnb
    have HWL := hide hwl
    have HYB := hide hyb
    rw [← hd] at E1
    clear e1 e2 e3 h0 hml hnl hedw hnb hwl hyb hB hd hhi hnn hmm HB HNN
    go_wp2_with fail
    refine (unhide HB2).mono ?_
    rintro y w3 ⟨v, rfl, hv, x3⟩
    dsimp only
    have X3 := X2.trans (x3.mono X2.size)
    obtain ⟨a', c', rfl, hN'⟩ := own_isNS hv (unhide HYB) (by have := unhide HWL; omega)
    have HI := hide hN'
    clear hv hN' HB2
    go_wp2_with fail
    refine (Line_at a' c' _ 0 w3 (unhide HI).1).mono ?_
    rintro y w4 ⟨rfl, x4⟩
    dsimp only
    have X4 := X3.trans (x4.mono X3.size)
    rw [unhide HNB]
    unfold liV
    dsimp only
    go_wp2_with fail
    refine bodyPost_ret (results_tmp2 rfl _ _ _) rfl ?_
    refine ⟨?_, X4⟩
    have := unhide E1
    simp only [Prod.mk.injEq] at this
    rw [← this.1, ← this.2]
    exact congrArg Ending.returned (by simp [w1', w4'])
end
section
theorem wid_le4 (L : List Int) : wid L ≤ 4 := by
  cases L with
  | nil => simp [wid, first]
  | cons a r =>
    rw [wid_lng]
    have := lng_le (a :: r)
    split <;> omega
theorem first_fewC {L : List Int} {n : Nat} (h : 4 ≤ n ∨ L.length ≤ n) : first (L.take n) = first L := by
  rcases h with h | h
  · cases L with
    | nil => simp
    | cons a r => exact (first_cut (by simp) (Nat.le_trans (wid_le4 _) h)).1
  · rw [List.take_of_length_le h]
theorem ix_agree {r place : Int} {E F : List Ed} {j : Nat} (hj : j < E.length) (hf : j < F.length) (h : ∀ i, i ≤ j → E.getD i e0 = F.getD i e0) (hp : place ≤ (byE r (E.getD j e0) : Int)) : ixE r place E = ixE r place F ∧ ixE r place E ≤ j := by
  have hle : ixE r place E ≤ j := by
    apply Classical.byContradiction
    intro hh
    have := ix_lt (r := r) (place := place) (E := E) (j := j) (by omega)
    omega
  refine ⟨?_, hle⟩
  symm
  apply ix_is (by omega)
  · intro i hi
    rw [← h i (by omega)]
    exact ix_lt hi
  · intro _
    rw [← h _ hle]
    exact ix_ge (by omega)
theorem fd_agree {r place m : Int} {E F : List Ed} {j : Nat} (hj : j < E.length) (hf : j < F.length) (h : ∀ i, i ≤ j → E.getD i e0 = F.getD i e0) (hp : place ≤ (byE r (E.getD j e0) : Int)) : fdR r place m E = fdR r place m F ∧ fdE r place m E = fdE r place m F := by
  obtain ⟨e, hle⟩ := ix_agree (r := r) (place := place) hj hf h hp
  have hu : upE r place E = upE r place F := by unfold upE; rw [← e]; exact h _ hle
  have hd : dnI r place E = dnI r place F := by unfold dnI; rw [hu, e]
  have hdle : dnI r place E ≤ j := by unfold dnI; split <;> omega
  have hs : selI r place m E = selI r place m F := by unfold selI; rw [e, hd]
  have hsle : selI r place m E ≤ j := by
    unfold selI
    split
    · exact hle
    · exact hdle
  have hi : isPl r place E = isPl r place F := by
    unfold isPl
    rw [← e]
    exact decide_eq_decide.2 ⟨fun x => ⟨x.1, by omega⟩, fun x => ⟨x.1, by omega⟩⟩
  have hR : fdR r place m E = fdR r place m F := by unfold fdR; rw [hi, hu]
  refine ⟨hR, ?_⟩
  unfold fdE
  rw [hR, ← hs]
  split
  · exact h _ hsle
  · rfl
theorem EE_at {l : List Int} {i : Nat} (h : i < (EE l).length) : (EE l).getD i e0 = stE l ((spots l 0).take i) := by
  rw [EE_len] at h
  exact edL_getD _ _ _ (by omega)
theorem EE_shift {T : List Int} (hl : ∀ x ∈ T, 0 ≤ x ∧ x ≤ 255) {a : Nat} (ha : a < (EE T).length) :
    (EE T).length = a + (EE (T.drop ((EE T).getD a e0).1)).length ∧ ∀ i, i < (EE (T.drop ((EE T).getD a e0).1)).length → (EE T).getD (a + i) e0 = adE ((EE T).getD a e0) ((EE (T.drop ((EE T).getD a e0).1)).getD i e0) := by
  have hk : a ≤ (spots T 0).length := by rw [EE_len] at ha; omega
  obtain ⟨_, h2, _, _⟩ := adds_of hl hk
  have ea := EE_at ha
  rw [← ea] at h2
  generalize hx : ((EE T).getD a e0).1 = x at *
  have hlen := congrArg List.length h2
  rw [List.length_map, List.length_drop] at hlen
  have hE : (EE T).length = a + (EE (T.drop x)).length := by rw [EE_len, EE_len]; omega
  refine ⟨hE, fun i hi => ?_⟩
  rw [EE_at (by omega), EE_at hi]
  have h3 : (spots T 0).take (a + i) = (spots T 0).take a ++ ((spots (T.drop x) 0).take i).map (· + x) := by
    rw [List.take_add, ← h2, List.map_take]
  rw [h3]
  unfold stE
  rw [List.foldl_append]
  have e3 : adE ((EE T).getD a e0) e0 = (EE T).getD a e0 := rfl
  have e4 : ((spots T 0).take a).foldl (nxE T) e0 = (EE T).getD a e0 := ea.symm
  rw [e4]
  have h5 := fold_dropE T x ((EE T).getD a e0) ((spots (T.drop x) 0).take i) e0
  rw [e3] at h5
  exact h5
theorem fd_shift {T : List Int} (hl : ∀ x ∈ T, 0 ≤ x ∧ x ≤ 255) {a : Nat} (ha : a < (EE T).length) {r place m : Int} (hp : (byE r ((EE T).getD a e0) : Int) ≤ place) :
    ixE r place (EE T) = a + ixE r (place - byE r ((EE T).getD a e0)) (EE (T.drop ((EE T).getD a e0).1)) ∧
    fdR r place m (EE T) = fdR r (place - byE r ((EE T).getD a e0)) m (EE (T.drop ((EE T).getD a e0).1)) ∧
    (fdR r place m (EE T) = 0 → fdE r place m (EE T) = adE ((EE T).getD a e0) (fdE r (place - byE r ((EE T).getD a e0)) m (EE (T.drop ((EE T).getD a e0).1)))) := by
  obtain ⟨hlen, hsh⟩ := EE_shift hl ha
  have hinc := inc_EE hl r
  have hd : ∀ x ∈ T.drop ((EE T).getD a e0).1, 0 ≤ x ∧ x ≤ 255 := fun x hx => hl x (List.mem_of_mem_drop hx)
  have hinc' := inc_EE hd r
  generalize hE' : EE (T.drop ((EE T).getD a e0).1) = E' at *
  generalize hee : (EE T).getD a e0 = e at *
  generalize hpp : place - (byE r e : Int) = pp at *
  have hkl : ixE r pp E' ≤ E'.length := List.findIdx_le_length
  have hix : ixE r place (EE T) = a + ixE r pp E' := by
    apply ix_is (by omega)
    · intro j hj
      by_cases hja : j < a
      · have := hinc.2.2 j a hja ha
        rw [hee] at this
        omega
      · have h1 := hsh (j - a) (by omega)
        rw [show a + (j - a) = j by omega] at h1
        rw [h1, byE_ad]
        have := ix_lt (r := r) (place := pp) (E := E') (j := j - a) (by omega)
        push_cast
        omega
    · intro hk
      have h1 := hsh (ixE r pp E') (by omega)
      rw [h1, byE_ad]
      have : pp ≤ (byE r (E'.getD (ixE r pp E') e0) : Int) := ix_ge (by omega)
      push_cast
      omega
  refine ⟨hix, ?_⟩
  have hpl : isPl r place (EE T) = isPl r pp E' := by
    unfold isPl
    rw [hix]
    exact decide_eq_decide.2 ⟨fun x => ⟨by omega, by omega⟩, fun x => ⟨by omega, by omega⟩⟩
  cases hb : isPl r pp E' with
  | false =>
    have h1 : fdR r place m (EE T) = 2 := by unfold fdR; rw [hpl, hb]; rfl
    have h2 : fdR r pp m E' = 2 := by unfold fdR; rw [hb]; rfl
    refine ⟨by rw [h1, h2], fun h => ?_⟩
    rw [h1] at h; cases h
  | true =>
    have hk : ixE r pp E' < E'.length := (of_decide_eq_true (show decide (0 ≤ pp ∧ ixE r pp E' < E'.length) = true from hb)).2
    have hu : upE r place (EE T) = adE e (upE r pp E') := by
      unfold upE
      rw [hix]
      exact hsh _ hk
    have hby : (byE r (upE r place (EE T)) : Int) = place ↔ (byE r (upE r pp E') : Int) = pp := by
      rw [hu, byE_ad]
      push_cast
      omega
    have hR : fdR r place m (EE T) = fdR r pp m E' := by
      unfold fdR
      rw [hpl, hb]
      by_cases hc : (byE r (upE r pp E') : Int) = pp
      · rw [if_pos rfl, if_pos rfl, if_pos (.inl (hby.2 hc)), if_pos (.inl hc)]
      · by_cases hm : m = 1 ∨ m = 2
        · rw [if_pos rfl, if_pos rfl, if_pos (.inr hm), if_pos (.inr hm)]
        · rw [if_pos rfl, if_pos rfl, if_neg (fun h => h.elim (fun h => hc (hby.1 h)) hm), if_neg (fun h => h.elim hc hm)]
    refine ⟨hR, fun h0 => ?_⟩
    have hs : selI r place m (EE T) = a + selI r pp m E' ∧ selI r pp m E' < E'.length := by
      unfold selI
      split
      · exact ⟨hix, hk⟩
      · unfold dnI
        by_cases hc : (byE r (upE r pp E') : Int) = pp
        · rw [if_pos (hby.2 hc), if_pos hc]
          exact ⟨hix, hk⟩
        · rw [if_neg (fun h => hc (hby.1 h)), if_neg hc, hix]
          have h1 : 1 ≤ ixE r pp E' := by
            apply Classical.byContradiction
            intro hh
            have hz : ixE r pp E' = 0 := by omega
            have hup : upE r pp E' = e0 := by unfold upE; rw [hz]; exact hinc'.1
            have h2 := ix_ge hk
            rw [hup, by_e0] at h2 hc
            omega
          omega
    unfold fdE
    rw [if_pos h0, ← hR, if_pos h0, hs.1]
    exact hsh _ hs.2
theorem win_pre {T : List Int} {near k : Nat} (hk : k = min T.length (near + 4)) : ∀ (pre : List Nat) (p : Nat), pre <+: spots T p → (∀ x ∈ pre, x ≤ near) → pre <+: spots (T.take k) p
  | [], _, _, _ => List.nil_prefix
  | x :: pre, p, h, hx => by
    by_cases hp : p < T.length
    · rw [spots_cons hp] at h
      obtain ⟨rfl, h'⟩ := List.cons_prefix_cons.1 h
      have hxn := hx x (List.mem_cons_self ..)
      have hpl : x < (T.take k).length := by rw [List.length_take]; omega
      have hw : wid ((T.take k).drop x) = wid (T.drop x) := by
        unfold wid
        rw [List.drop_take, first_fewC (by rw [List.length_drop]; omega)]
      rw [spots_cons hpl, hw]
      exact List.cons_prefix_cons.2 ⟨rfl, win_pre hk pre _ h' (fun y hy => hx y (List.mem_cons_of_mem _ hy))⟩
    · rw [spots_end hp] at h
      simp at h
theorem win_st {T : List Int} {near k : Nat} (hk : k = min T.length (near + 4)) : ∀ (pre : List Nat) (e : Ed), (∀ x ∈ pre, x ≤ near) → pre.foldl (nxE (T.take k)) e = pre.foldl (nxE T) e
  | [], _, _ => rfl
  | x :: pre, e, hx => by
    have hxn := hx x (List.mem_cons_self ..)
    have hf : first ((T.take k).drop x) = first (T.drop x) := by rw [List.drop_take, first_fewC (by rw [List.length_drop]; omega)]
    have hn : nxE (T.take k) e x = nxE T e x := by unfold nxE wid; rw [hf]
    rw [List.foldl_cons, List.foldl_cons, hn]
    exact win_st hk pre _ (fun y hy => hx y (List.mem_cons_of_mem _ hy))
theorem win_EE {T : List Int} {near k j : Nat} (hk : k = min T.length (near + 4)) (hj : j < (EE T).length) (hx : ∀ x ∈ (spots T 0).take j, x ≤ near) :
    j < (EE (T.take k)).length ∧ ∀ i, i ≤ j → (EE (T.take k)).getD i e0 = (EE T).getD i e0 := by
  have hp := win_pre hk ((spots T 0).take j) 0 (List.take_prefix _ _) hx
  rw [EE_len] at hj
  have hl : ((spots T 0).take j).length = j := by rw [List.length_take]; omega
  have hl2 := hp.length_le
  rw [hl] at hl2
  have hlen : j < (EE (T.take k)).length := by rw [EE_len]; omega
  refine ⟨hlen, fun i hi => ?_⟩
  rw [EE_at (by omega), EE_at (by rw [EE_len]; omega)]
  have e1 : (spots (T.take k) 0).take i = (spots T 0).take i := by
    obtain ⟨s, hs⟩ := hp
    rw [← hs, List.take_append_of_le_length (by omega), List.take_take, Nat.min_eq_left hi]
  rw [e1]
  exact win_st hk _ _ (fun x h => hx x (by
    rw [show i = min i j by omega, ← List.take_take] at h
    exact List.mem_of_mem_take h))
theorem spot_edge {l : List Int} (hl : ∀ x ∈ l, 0 ≤ x ∧ x ≤ 255) {j : Nat} {x : Nat} (hx : x ∈ (spots l 0).take j) : ∃ i, i < j ∧ i < (spots l 0).length ∧ ((EE l).getD i e0).1 = x := by
  obtain ⟨i, hi, rfl⟩ := List.mem_iff_getElem.1 hx
  rw [List.length_take] at hi
  refine ⟨i, by omega, by omega, ?_⟩
  rw [EE_at (by rw [EE_len]; omega)]
  have hpre : (spots l 0).take i ++ [((spots l 0).take j)[i]] <+: spots l 0 := by
    rw [List.getElem_take]
    have := List.take_prefix (i + 1) (spots l 0)
    rwa [List.take_succ_eq_append_getElem (by omega)] at this
  exact (st_next hl hpre).1.symm
theorem find_win {T : List Int} (hl : ∀ x ∈ T, 0 ≤ x ∧ x ≤ 255) {r m place : Int} {a near : Nat} (ha : a < (EE T).length) (hp : (byE r ((EE T).getD a e0) : Int) ≤ place) (hlt : ixE r place (EE T) < (EE T).length)
    (hlo : ((EE T).getD a e0).1 ≤ near) (hq : ∀ i, i < ixE r place (EE T) → ((EE T).getD i e0).1 ≤ near) :
    fdR r (place - byE r ((EE T).getD a e0)) m (EE ((T.drop ((EE T).getD a e0).1).take (min T.length (near + 4) - ((EE T).getD a e0).1))) = fdR r place m (EE T) ∧
    (fdR r place m (EE T) = 0 → (fdE r place m (EE T)).1 = ((EE T).getD a e0).1 + (fdE r (place - byE r ((EE T).getD a e0)) m (EE ((T.drop ((EE T).getD a e0).1).take (min T.length (near + 4) - ((EE T).getD a e0).1)))).1) := by
  obtain ⟨h1, h2, h3⟩ := fd_shift (m := m) hl ha hp
  obtain ⟨hlen, hsh⟩ := EE_shift hl ha
  have hd : ∀ x ∈ T.drop ((EE T).getD a e0).1, 0 ≤ x ∧ x ≤ 255 := fun x hx => hl x (List.mem_of_mem_drop hx)
  generalize hx : ((EE T).getD a e0).1 = lo at *
  have hk : min T.length (near + 4) - lo = min (T.drop lo).length (near - lo + 4) := by rw [List.length_drop]; omega
  generalize hpp : place - (byE r ((EE T).getD a e0) : Int) = pp at *
  have hj : ixE r pp (EE (T.drop lo)) < (EE (T.drop lo)).length := by omega
  obtain ⟨w1, w2⟩ := win_EE hk hj (fun x hxm => by
    obtain ⟨i, i1, i2, rfl⟩ := spot_edge hd hxm
    have h4 := hq (a + i) (by omega)
    rw [hsh i (by rw [EE_len]; omega)] at h4
    have h5 : (adE ((EE T).getD a e0) ((EE (T.drop lo)).getD i e0)).1 = lo + ((EE (T.drop lo)).getD i e0).1 := by rw [← hx]; rfl
    omega)
  obtain ⟨f1, f2⟩ := fd_agree (r := r) (place := pp) (m := m) hj w1 (fun i hi => (w2 i hi).symm) (ix_ge hj)
  rw [← f1, ← f2]
  refine ⟨h2.symm, fun h0 => ?_⟩
  rw [h3 h0]
  rw [← hx]
  rfl
def nxT (e : Ed) (t : Tri) : Ed := (e.1 + t.2.1, e.2.1 + 1, e.2.2 + (ulen t.1).toNat)
theorem st_steps (l : List Int) (i : Nat) : stE l ((spots l 0).take i) = ((stepsL l).take i).foldl nxT e0 := by
  unfold stepsL stE
  rw [← List.map_take, List.foldl_map]
  rfl
theorem fold_bad (e : Ed) : ∀ n : Nat, (List.replicate n badT).foldl nxT e = (e.1 + n, e.2.1 + n, e.2.2 + n)
  | 0 => rfl
  | n + 1 => by
    rw [List.replicate_succ', List.foldl_append, fold_bad e n]
    rfl
theorem settled {T : List Int} (hl : ∀ x ∈ T, 0 ≤ x ∧ x ≤ 255) (n : Nat) (hn : n ≤ T.length) :
    ∃ k, k < (EE T).length ∧ ((EE T).getD k e0).1 + leftL (T.take n) = n ∧ leftL (T.take n) ≤ 3 ∧ ∀ u, isRu u = true → szE u (T.take n) = byE u ((EE T).getD k e0) + leftL (T.take n) := by
  have hel : Hel [] := .inl rfl
  obtain ⟨c0, e1, e2, _⟩ := scanS_text (T.take n) hel
  have hs := fun c => scanS_steps (T.take n) hel c
  have hh := scanS_hel (T.take n) hel
  have hlf := left_held (h := []) (b := T.take n) hel
  rw [List.nil_append] at hlf e1
  have hs1 := hs (T.drop n)
  have hs2 := hs []
  rw [List.nil_append, List.take_append_drop] at hs1
  rw [List.nil_append, List.append_nil, List.append_nil] at hs2
  generalize (scanS [] (T.take n)).2 = h at *
  rw [e2] at hs1 hs2
  rw [hlf]
  have hc0 : ∀ x ∈ c0, 0 ≤ x ∧ x ≤ 255 := fun x hx => hl x (List.mem_of_mem_take (by rw [e1]; exact List.mem_append_left _ hx))
  have hT : ∀ x ∈ T.take n, 0 ≤ x ∧ x ≤ 255 := fun x hx => hl x (List.mem_of_mem_take hx)
  have hlenT : (EE T).length = (stepsL T).length + 1 := by rw [EE_len]; simp [stepsL]
  have hk : (stepsL c0).length < (EE T).length := by rw [hlenT, hs1, List.length_append]; omega
  have hst : (EE T).getD (stepsL c0).length e0 = stE c0 (spots c0 0) := by
    rw [EE_at hk, st_steps, hs1, List.take_left]
    have := st_steps c0 (spots c0 0).length
    rw [List.take_length] at this
    rw [this, show (spots c0 0).length = (stepsL c0).length by simp [stepsL], List.take_length]
  have hlen := congrArg List.length e1
  rw [List.length_append, List.length_take, Nat.min_eq_left hn] at hlen
  refine ⟨(stepsL c0).length, hk, ?_, ?_, fun u hu => ?_⟩
  · rw [hst, st_full hc0]; omega
  · rcases hh with rfl | hp
    · simp
    · exact (prop_len hp).2
  · have hb : stepsL h = List.replicate h.length badT := by
      rcases hh with rfl | hp
      · exact stepsL_nil
      · exact steps_prop hp
    have h1 : stE (T.take n) (spots (T.take n) 0) = (List.replicate h.length badT).foldl nxT (stE c0 (spots c0 0)) := by
      have a1 := st_steps (T.take n) (spots (T.take n) 0).length
      rw [List.take_length] at a1
      have a2 := st_steps c0 (spots c0 0).length
      rw [List.take_length] at a2
      rw [a1, a2, show (spots (T.take n) 0).length = (stepsL (T.take n)).length by simp [stepsL], show (spots c0 0).length = (stepsL c0).length by simp [stepsL], List.take_length, List.take_length, hs2, List.foldl_append, hb]
    unfold szE
    rw [hu, if_pos rfl, hst, h1, fold_bad]
    unfold byE
    split
    · rfl
    · split <;> rfl
theorem left_tail (t : List Int) : leftL (t.drop (t.length - 3)) = leftL t := by
  by_cases h : 3 ≤ t.length
  · have hl : (t.drop (t.length - 3)).length = 3 := by rw [List.length_drop]; omega
    unfold leftL
    rw [hl, List.drop_drop, List.drop_drop, List.drop_drop, show t.length - 3 + (3 - 3) = t.length - 3 by omega, show t.length - 3 + (3 - 2) = t.length - 2 by omega, show t.length - 3 + (3 - 1) = t.length - 1 by omega]
    simp only [show (3 ≤ t.length) = True from eq_true h, show (2 ≤ t.length) = True from eq_true (by omega), show (1 ≤ t.length) = True from eq_true (by omega), show ((3 : Nat) ≤ 3) = True from eq_true (by omega), show ((2 : Nat) ≤ 3) = True from eq_true (by omega), show ((1 : Nat) ≤ 3) = True from eq_true (by omega)]
  · rw [show t.length - 3 = 0 by omega, List.drop_zero]
end
end Go.Proofs.YteamaneompijkaaGreatDoor
