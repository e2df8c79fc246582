/- Bytes cut at an edge, in plain functions: the steps are the same, and sizes add up; what RuleAdds asks; the document's steps in memory of the call's own; steps appended. -/
import Derived.Test.YtnkeohiibninfabDoorRr8
import Derived.Test.YtnkeohiibninfabDoorRf2U
namespace Go.Proofs.YtnkeohiibninfabDoor
open Go.ChangeShapes Go.WideShapes Go.ChangeAt Go.RowKit

theorem first_cut {L : List Int} {n : Nat} (hL : 0 < L.length) (hn : wid L ≤ n) : first (L.take n) = first L ∧ whl (L.take n) = whl L := by
  match L with
  | [] => cases hL
  | a :: r =>
    have h1 : 1 ≤ wid (a :: r) := by have := wid_pos (l := a :: r) (p := 0) (by simp); simpa using this
    obtain ⟨k, rfl⟩ : ∃ k, n = k + 1 := ⟨n - 1, by omega⟩
    have e : (a :: r).take (k + 1) = a :: r.take k := rfl
    have ht : (a :: r.take k).take (need a).toNat = (a :: r).take (min (need a).toNat (k + 1)) := by rw [← e, List.take_take]
    by_cases hw : whole ((a :: r).take (need a).toNat) = true
    · have hwd : wid (a :: r) = (need a).toNat := by unfold wid; simp only [first]; rw [if_pos hw]
      have hm : min (need a).toNat (k + 1) = (need a).toNat := by omega
      rw [hm] at ht
      rw [e]
      have hf : first (a :: r.take k) = first (a :: r) := by simp only [first]; rw [ht]
      have hg : lng (a :: r.take k) = lng (a :: r) := by simp only [lng]; rw [ht]
      exact ⟨hf, by unfold whl; simp only [hg]⟩
    · have hw2 : ¬ whole ((a :: r.take k).take (need a).toNat) = true := by
        rw [ht]
        by_cases hle : (need a).toNat ≤ k + 1
        · rw [show min (need a).toNat (k + 1) = (need a).toNat by omega]; exact hw
        · rw [show min (need a).toNat (k + 1) = k + 1 by omega, e]
          have := whole_len (a := a) (r := r.take k) (by have := need_lo a; simp; omega)
          rw [this]
          decide
      rw [e]
      have hf : first (a :: r.take k) = first (a :: r) := by simp only [first]; rw [if_neg hw, if_neg hw2]
      have hg : lng (a :: r.take k) = lng (a :: r) := by simp only [lng]; rw [if_neg hw, if_neg hw2]
      exact ⟨hf, by unfold whl; simp only [hg]⟩
theorem spots_inj {l : List Int} {p q : Nat} (hp : p ≤ l.length) (hq : q ≤ l.length) (h : spots l p = spots l q) : p = q := by
  by_cases h1 : p < l.length
  · rw [spots_cons h1] at h
    by_cases h2 : q < l.length
    · rw [spots_cons h2] at h; exact (List.cons.inj h).1
    · rw [spots_end h2] at h; cases h
  · rw [spots_end h1] at h
    by_cases h2 : q < l.length
    · rw [spots_cons h2] at h; cases h
    · omega
theorem spots_take {l : List Int} (hl : ∀ x ∈ l, 0 ≤ x ∧ x ≤ 255) {q : Nat} (hq : q ≤ l.length) : ∀ (pre : List Nat) (p : Nat), p ≤ l.length → spots l p = pre ++ spots l q → spots (l.take q) p = pre ∧ ∀ x ∈ pre, x < l.length ∧ x + wid (l.drop x) ≤ q
  | [], p, hp, h => by
    obtain rfl := spots_inj hp hq (by simpa using h)
    exact ⟨spots_end (by simp; omega), by simp⟩
  | x :: t, p, hp, h => by
    by_cases hlt : p < l.length
    · rw [spots_cons hlt] at h
      obtain ⟨rfl, ht⟩ := List.cons.inj h
      have hwl := wid_len hlt
      have hwp := wid_pos hlt
      obtain ⟨i1, i2⟩ := spots_take hl hq t (p + wid (l.drop p)) hwl ht
      obtain ⟨q', g1, g2, g3, _⟩ := st_walk hl t (p + wid (l.drop p)) e0 hwl ⟨spots l q, ht.symm⟩
      have hqq : q' = q := spots_inj g2 hq (by rw [g3] at ht; exact List.append_cancel_left ht)
      subst hqq
      have hwd : wid ((l.take q').drop p) = wid (l.drop p) := by
        rw [List.drop_take]
        unfold wid
        rw [(first_cut (by simp; omega) (by omega)).1]
      refine ⟨?_, ?_⟩
      · rw [spots_cons (by simp; omega), hwd, i1]
      · intro y hy
        rcases List.mem_cons.1 hy with rfl | hy
        · exact ⟨hlt, g1⟩
        · exact i2 y hy
    · rw [spots_end hlt] at h
      cases h
theorem spots_drop (l : List Int) (x : Nat) : ∀ (n p : Nat), l.length - (x + p) ≤ n → spots l (x + p) = (spots (l.drop x) p).map (· + x)
  | 0, p, h => by rw [spots_end (by omega), spots_end (by simp; omega)]; rfl
  | n + 1, p, h => by
    by_cases hlt : x + p < l.length
    · have hwp := wid_pos hlt
      have e : (l.drop x).drop p = l.drop (x + p) := List.drop_drop
      rw [spots_cons hlt, spots_cons (l := l.drop x) (p := p) (by simp; omega), e, List.map_cons]
      have := spots_drop l x n (p + wid (l.drop (x + p))) (by omega)
      rw [← Nat.add_assoc] at this
      rw [this, Nat.add_comm p x]
    · rw [spots_end hlt, spots_end (by simp; omega)]; rfl
def adE (e d : Ed) : Ed := (e.1 + d.1, e.2.1 + d.2.1, e.2.2 + d.2.2)
theorem fold_takeE {l : List Int} {q : Nat} : ∀ (pre : List Nat) (e : Ed), (∀ x ∈ pre, x < l.length ∧ x + wid (l.drop x) ≤ q) → pre.foldl (nxE (l.take q)) e = pre.foldl (nxE l) e
  | [], _, _ => rfl
  | x :: t, e, h => by
    have hx := h x (List.mem_cons_self ..)
    have hwp := wid_pos hx.1
    have hf : first ((l.take q).drop x) = first (l.drop x) := by rw [List.drop_take]; exact (first_cut (by simp; omega) (by omega)).1
    have hn : nxE (l.take q) e x = nxE l e x := by unfold nxE wid; rw [hf]
    rw [List.foldl_cons, List.foldl_cons, hn]
    exact fold_takeE t _ (fun y hy => h y (List.mem_cons_of_mem _ hy))
theorem fold_dropE (l : List Int) (x : Nat) (e : Ed) : ∀ (ps : List Nat) (d : Ed), (ps.map (· + x)).foldl (nxE l) (adE e d) = adE e (ps.foldl (nxE (l.drop x)) d)
  | [], _ => rfl
  | p :: t, d => by
    have hd : (l.drop x).drop p = l.drop (p + x) := by rw [List.drop_drop, Nat.add_comm]
    rw [List.map_cons, List.foldl_cons, List.foldl_cons, ← fold_dropE l x e t]
    congr 1
    unfold nxE adE
    rw [hd]
    simp only [Prod.mk.injEq]
    omega
/-- all that RuleAdds asks of an edge -/
theorem adds_of {l : List Int} (hl : ∀ x ∈ l, 0 ≤ x ∧ x ≤ 255) {k : Nat} (_hk : k ≤ (spots l 0).length) :
    spots (l.take (stE l ((spots l 0).take k)).1) 0 = (spots l 0).take k ∧ (spots (l.drop (stE l ((spots l 0).take k)).1) 0).map (· + (stE l ((spots l 0).take k)).1) = (spots l 0).drop k ∧
    (∀ x ∈ (spots l 0).take k, x < l.length ∧ x + wid (l.drop x) ≤ (stE l ((spots l 0).take k)).1) ∧
    adE (stE (l.take (stE l ((spots l 0).take k)).1) (spots (l.take (stE l ((spots l 0).take k)).1) 0)) (stE (l.drop (stE l ((spots l 0).take k)).1) (spots (l.drop (stE l ((spots l 0).take k)).1) 0)) = stE l (spots l 0) := by
  obtain ⟨a1, a2, _⟩ := st_at hl (List.take_prefix k (spots l 0))
  generalize hx : (stE l ((spots l 0).take k)).1 = x at *
  obtain ⟨t1, t2⟩ := spots_take hl a1 ((spots l 0).take k) 0 (Nat.zero_le _) a2
  have hd := spots_drop l x l.length 0 (by omega)
  rw [Nat.add_zero] at hd
  have hsd : (spots l 0).drop k = spots l x := by
    have h1 : (spots l 0).take k ++ (spots l 0).drop k = (spots l 0).take k ++ spots l x := by rw [List.take_append_drop]; exact a2
    exact List.append_cancel_left h1
  refine ⟨t1, by rw [hsd, hd], t2, ?_⟩
  rw [t1]
  have e1 : stE (l.take x) ((spots l 0).take k) = stE l ((spots l 0).take k) := fold_takeE _ _ t2
  have e2 := fold_dropE l x (stE l ((spots l 0).take k)) (spots (l.drop x) 0) e0
  rw [e1, ← hd] at *
  have e3 : adE (stE l ((spots l 0).take k)) e0 = stE l ((spots l 0).take k) := rfl
  rw [e3] at e2
  show adE (stE l ((spots l 0).take k)) ((spots (l.drop x) 0).foldl (nxE (l.drop x)) e0) = _
  rw [← e2]
  unfold stE
  rw [← List.foldl_append, ← a2]

theorem str_appR (a b : List Int) : strOfNums a ++ strOfNums b = strOfNums (a ++ b) := by
  apply ByteArray.ext
  simp [strOfNums]
structure AddF (r place : Int) (l : List Int) (x k : Nat) : Prop where
  kle : k ≤ (spots l 0).length
  xk : x = (stE l ((spots l 0).take k)).1
  xle : x ≤ l.length
  c1 : cuR r 0 place 1 (EE l) = 0
  l1 : cuL r 0 place 1 l = l.take x
  at' : toP r place 1 1 (EE l) = x
  c2 : cuR r place (szE r l : Int) 1 (EE l) = 0
  l2 : cuL r place (szE r l : Int) 1 l = l.drop x
  sum : ∀ u, isRu u = true → szE u (l.take x) + szE u (l.drop x) = szE u l
theorem byE_ad (u : Int) (e d : Ed) : byE u (adE e d) = byE u e + byE u d := by
  unfold byE adE
  split
  · rfl
  · split <;> rfl
theorem addF {l : List Int} (hl : ∀ x ∈ l, 0 ≤ x ∧ x ≤ 255) {r place : Int} (hr : isRu r = true) (h0 : 0 ≤ place) (h1 : place ≤ (szE r l : Int)) : ∃ x k, AddF r place l x k := by
  have hE := inc_EE hl r
  have hz : (szE r l : Int) = (byE r ((EE l).getD ((EE l).length - 1) e0) : Int) := by unfold szE; rw [hr, EE_last]; rfl
  have hp : isPl r place (EE l) = true := (isPl_iff hE).2 ⟨h0, by omega⟩
  obtain ⟨dl, _, _⟩ := dn_lt hE hp
  obtain ⟨d1, d2⟩ := fd_dn (m := 1) hp (Or.inr rfl)
  have dk : dnI r place (EE l) ≤ (spots l 0).length := by rw [EE_len] at dl; omega
  have hx : dnE r place (EE l) = stE l ((spots l 0).take (dnI r place (EE l))) := (edL_getD l (spots l 0) _ dk)
  obtain ⟨s1, s2, s3, s4⟩ := adds_of hl dk
  have hxl := (st_at hl (List.take_prefix (dnI r place (EE l)) (spots l 0))).1
  have z0 := at_edge hE hE.2.1 1
  rw [hE.1, by_e0] at z0
  have zl := at_edge hE (j := (EE l).length - 1) (by have := hE.2.1; omega) 1
  rw [← hz, EE_last] at zl
  have hcu : ∀ lo hi : Int, 0 ≤ lo → lo ≤ hi → cuR r lo hi 1 (EE l) = if fdR r hi 1 (EE l) = 0 then fdR r lo 1 (EE l) else fdR r hi 1 (EE l) := fun lo hi g1 g2 => by
    unfold cuR
    rw [hr, ru1]
    show (if lo < 0 ∨ hi < lo then 2 else _) = _
    rw [if_neg (by omega)]
  have c1 : cuR r 0 place 1 (EE l) = 0 := by rw [hcu 0 place (by omega) h0, if_pos d1]; exact z0.2.2.1
  have c2 : cuR r place (szE r l : Int) 1 (EE l) = 0 := by rw [hcu place _ h0 h1, if_pos zl.2.2.1]; exact d1
  refine ⟨(dnE r place (EE l)).1, dnI r place (EE l), dk, by rw [hx], by rw [hx]; exact hxl, c1, ?_, ?_, c2, ?_, fun u hu => ?_⟩
  · unfold cuL
    rw [if_pos c1, d2, show fdE r 0 1 (EE l) = e0 from z0.2.2.2]
    rfl
  · rw [(to_ru hr ru1 ru1 place (EE l)).2, d2]
    rfl
  · unfold cuL
    rw [if_pos c2, zl.2.2.2, st_full hl, d2, List.take_length]
  · unfold szE
    rw [hu, hx]
    show byE u _ + byE u _ = byE u _
    rw [← byE_ad, s4]

theorem flatMap_cg {f g : Nat → List Value} : ∀ (ps : List Nat), (∀ y ∈ ps, f y = g y) → ps.flatMap f = ps.flatMap g
  | [], _ => rfl
  | x :: t, h => by rw [List.flatMap_cons, List.flatMap_cons, h x (List.mem_cons_self ..), flatMap_cg t (fun y hy => h y (List.mem_cons_of_mem _ hy))]
theorem stps_app {l : List Int} (hl : ∀ x ∈ l, 0 ≤ x ∧ x ≤ 255) {k : Nat} (hk : k ≤ (spots l 0).length) {x : Nat} (hx : x = (stE l ((spots l 0).take k)).1) :
    stps (l.take x) (spots (l.take x) 0) ++ stps (l.drop x) (spots (l.drop x) 0) = stps l (spots l 0) ∧ (spots (l.take x) 0).length + (spots (l.drop x) 0).length = (spots l 0).length := by
  obtain ⟨s1, s2, s3, _⟩ := adds_of hl hk
  rw [← hx] at s1 s2 s3
  have e1 : stps (l.take x) ((spots l 0).take k) = stps l ((spots l 0).take k) := by
    unfold stps
    refine flatMap_cg _ fun y hy => ?_
    obtain ⟨h1, h2⟩ := s3 y hy
    have hwp := wid_pos h1
    have hc := first_cut (L := l.drop y) (n := x - y) (by simp; omega) (by omega)
    unfold cel wid
    rw [List.drop_take, hc.1, hc.2]
  have e2 : stps (l.drop x) (spots (l.drop x) 0) = stps l ((spots (l.drop x) 0).map (· + x)) := by
    unfold stps
    rw [List.flatMap_map]
    refine flatMap_cg _ fun y _ => ?_
    unfold cel
    rw [List.drop_drop, Nat.add_comm x y]
  constructor
  · rw [s1, e1, e2, s2]
    unfold stps
    rw [← List.flatMap_append, List.take_append_drop]
  · have := congrArg List.length s2
    rw [List.length_map, List.length_drop] at this
    rw [s1, List.length_take, this]
    omega

theorem row_baseV {W : World} {B B' k : Nat} {v : Value} {t : TypeId} {s : Nat} {xs : List Value} (h : W.ownsRow B t s v k xs) (hB : B' ≤ B) : W.ownsRow B' t s v k xs := by
  refine ⟨h.1, ?_⟩
  rcases h.2 with h2 | ⟨g', c', cur, h1, h2, h3⟩
  · exact Or.inl h2
  · exact Or.inr ⟨g', c', cur, h1, Nat.le_trans hB h2, h3⟩
set_option maxHeartbeats 2000000 in
theorem StepsO_at (a0 : Option Addr) (cap : Nat) (l : List Int) (w : World) (hB : IsB w a0 cap l) (hl : l.length ≤ 1048576) :
    Calls Tryd.prog 21 #[.slice a0 l.length cap] w fun e w' => ∃ v, e = .returned v ∧ w'.ownsRow w.heap.size 71 3 v (spots l 0).length (stps l (spots l 0)) ∧ Below w.heap.size w w' := by
  have hsl := spots_le l
  go_enter Tryd.func21, Tryd.ntmps21
  go_wp2_with fail
  refine (Edges_at a0 cap l w hB hl).mono ?_
  rintro e w1 ⟨v1, rfl, o1, x1⟩
  have hlen : (spots l 0 ++ [l.length]).length = (spots l 0).length + 1 := by simp
  rw [← hlen] at o1
  obtain ⟨a1, c1, rfl, k1, i1⟩ := ints_at o1
  rw [hlen] at k1 ⊢
  obtain ⟨g1, rfl, gl, gc⟩ : ∃ g, a1 = some ⟨g, 0, none⟩ ∧ g < w1.heap.size ∧ ∀ k, k < (spots l 0).length → w1.cell? ⟨g, k, none⟩ = some (.int .i64 ((spots l 0).getD k 0 : Nat)) := by
    rcases i1 with h | ⟨g, h1, h2, h3⟩
    · simp at h
    · exact ⟨g, h1, h2, fun k hk => by rw [h3 k (by rw [hlen]; omega), getD_snoc _ _ _ hk]⟩
  clear o1 i1 hlen
  go_wp2_with fail
  generalize hn : (spots l 0).length = n at *
  have HN := hide hn
  clear hn
  go_loopw [3, 5] (fun u i wx => ∃ (k : Nat) (v : Value), u = v ∧ k ≤ n ∧ i = .int .i64 k ∧ Hid (wx.ownsRow w1.heap.size 71 3 v k (stps l ((spots l 0).take k))) ∧ Below w1.heap.size w1 wx) (fun _ i _ => n - (intOf i).toNat)
  case atStart => exact ⟨0, _, rfl, Nat.zero_le _, rfl, World.ownsRow_nil _ _ _ _, Below.refl _ _⟩
  case round =>
    obtain ⟨k, v, rfl, hk, rfl, ho, hb⟩ := hrel
    by_cases hlt : k < n
    · have hck := (hb.cell (p := ⟨g1, k, none⟩) gl).trans (gc k hlt)
      have hq := spots_lt (l := l) (k := k) (by rw [unhide HN]; exact hlt)
      have hts := take_snoc' (spots l 0) k (by rw [unhide HN]; exact hlt)
      generalize (spots l 0).getD k 0 = q at *
      have HTS := hide hts
      clear hts
      have hBx := (hB.below x1 (Nat.le_refl _)).below hb (Nat.le_refl _)
      go_wp2_with fail
      refine (Of_at a0 cap q l _ hBx hq).mono ?_
      unfold stp stepV
      rintro e w2 ⟨rfl, x2⟩
      have hb2 := hb.trans (x2.mono hb.size)
      have ho2 := own_below (unhide ho) x2
      obtain ⟨g, c, w3, r3, o3, x3⟩ := push_step w2 _ k _ _ (.int .i32 (first (l.drop q)).1) (.int .i64 (wid (l.drop q))) (.bool (whl (l.drop q))) 50 ho2 (by omega) hb2.size rfl rfl rfl
      have R3 := hide r3
      clear r3
      go_wp2_with (at_builtin; refine wpList_append_known rfl _ _ 50 50 rfl _ _ rfl rfl _ _ (unhide R3) ?_)
      go_roundw
      case rel => exact ⟨k + 1, _, rfl, by omega, by go_num, by rw [unhide HTS, stps_snoc]; exact hide o3, hb2.trans x3⟩
      case measure => simp [intOf]; omega
    · obtain rfl : k = n := by omega
      have ho' := unhide ho
      rw [List.take_of_length_le (by rw [unhide HN]; omega)] at ho'
      clear ho
      have hfin := row_baseV ho' x1.size
      clear ho'
      go_wp2_with fail
      go_ret
      exact ⟨_, rfl, by rw [unhide HN]; exact hfin, x1.trans (hb.mono x1.size)⟩

theorem stps_one {l : List Int} {ps : List Nat} : ∀ u ∈ stps l ps, u.oneCell' = true := by
  intro u hu
  obtain ⟨p, _, h⟩ := List.mem_flatMap.1 hu
  simp only [cel, List.mem_cons, List.not_mem_nil, or_false] at h
  rcases h with rfl | rfl | rfl <;> rfl
theorem app_steps {W : World} {B B2 n m : Nat} {v1 v2 : Value} {xs ys : List Value} (ty : TypeId) (h1 : W.ownsRow B 71 3 v1 n xs) (h2 : W.ownsRow B2 71 3 v2 m ys) (hB : B ≤ W.heap.size) (hn : n + m ≤ 4194304) (hone : ∀ u ∈ ys, u.oneCell' = true) :
    ∃ v' W', (Builtin.append_ #[50, 50] ty #[v1, v2]).run Tryd.prog W = .ok v' W' ∧ W'.ownsRow B 71 3 v' (n + m) (xs ++ ys) ∧ Below B W W' := by
  obtain ⟨i, hi, hz, hs, hby⟩ := info_step
  have hc := h2
  rcases Nat.eq_zero_or_pos m with rfl | hm
  · obtain rfl : ys = [] := List.length_eq_zero_iff.1 (by simpa using h2.1)
    obtain ⟨a, c, rfl⟩ : ∃ a c, v2 = .slice a 0 c := by
      rcases h2.2 with ⟨rfl, _⟩ | ⟨g, c, cur, rfl, _⟩
      · exact ⟨_, _, rfl⟩
      · exact ⟨_, _, rfl⟩
    have hsrc : Src Tryd.prog i.size 50 (.slice a 0 c) 0 [] W := by
      cases a with
      | none => exact Src.ofNil W Tryd.underlying50 c
      | some x => exact Src.ofSlice W Tryd.underlying50 x 0 c [] (by simp) (fun j u h => by simp at h) (fun u h => by cases h)
    refine ⟨v1, W, ?_, by simpa using h1, Below.refl _ _⟩
    rcases h1.2 with ⟨rfl, h0⟩ | ⟨g, cap, cur, rfl, hB, hg, hle, hm, hsz, htk⟩
    · simp [Builtin.append_, run_underlying Tryd.underlying50, sizeOf, typeInfo, hi, hsrc.len, hsrc.cells]
    · have := run_append_room_src (P := Tryd.prog) W 50 50 ty 71 i Tryd.underlying50 hi g 0 n cap (.slice a 0 c) 0 [] hsrc (by omega) (fun j hj => absurd hj (Nat.not_lt_zero _)) (fun j hj => absurd hj (Nat.not_lt_zero _))
      simpa [World.setCells] using this
  · obtain ⟨g, c, rfl⟩ : ∃ g c, v2 = .slice (some ⟨g, 0, none⟩) m c := by
      rcases h2.2 with ⟨_, h0⟩ | ⟨g, c, cur, rfl, _⟩
      · omega
      · exact ⟨_, _, rfl⟩
    obtain ⟨g', k, W', hrun, ho, hg, _, _⟩ := run_append_lies (P := Tryd.prog) W 50 ty B 71 i _ 3 24 Tryd.underlying50 hi hz hs hby rfl (by decide) v1 n xs h1 ⟨g, 0, none⟩ m c ys h2.1 (fun j u hj => World.ownsRow.cells hc rfl j u hj) hone hm (by unfold maxLen; omega) (by omega) hB _ rfl
    exact ⟨_, W', hrun, ho, (Below.refl B W).grown hg hB (fun k hk => (h1.lt k hk).1)⟩

end Go.Proofs.YtnkeohiibninfabDoor
