/- Layer 10, plain: the byte place that settledFrom answers is near enough; what is found there. · Layer 10: sizes of ropes are what rule counts; the line of a place; contracts of seek's begin, Line, Where. · Layer 10: contracts of seek's Where and Line, of a rope and of nil. -/
import Derived.Test.YteamaneompijkaaGreatDoorSo37
import Derived.Test.YteamaneompijkaaGreatDoorSo36
import Derived.Test.YteamaneompijkaaGreatDoorSo18
namespace Go.Proofs.YteamaneompijkaaGreatDoor
open Go.ChangeShapes Go.WideShapes Go.ChangeAt Go.RowKit
set_option maxRecDepth 100000
set_option maxHeartbeats 8000000
section
def setB (u place : Int) (l : List Int) : Bool := decide (place ≤ (szE u l : Int) - (leftL l : Int))
def NearA (T : List Int) (u place : Int) (near : Nat) : Prop := (u = 1 ∧ place = (near : Int)) ∨ (¬ u = 1 ∧ ∃ n : Int, FirA (setB u place) T n ∧ (near : Int) = if n < 0 then (T.length : Int) else n)
theorem EE_bytes {T : List Int} (hl : ∀ x ∈ T, 0 ≤ x ∧ x ≤ 255) {i : Nat} (h : i < (EE T).length) : ((EE T).getD i e0).1 ≤ T.length := by
  have h1 := (inc_EE hl 1).le (i := i) (j := (EE T).length - 1) (by omega) (by omega)
  rw [EE_last] at h1
  have h2 := st_full hl
  have e : ∀ d : Ed, byE 1 d = d.1 := fun d => rfl
  rw [e, e, h2] at h1
  exact h1
theorem by_last {T : List Int} {u : Int} (hu : isRu u = true) : byE u ((EE T).getD ((EE T).length - 1) e0) = szE u T := by
  rw [EE_last]
  unfold szE
  rw [hu, if_pos rfl]
theorem near_ok {T : List Int} (hl : ∀ x ∈ T, 0 ≤ x ∧ x ≤ 255) {u place : Int} {near : Nat} (hu : isRu u = true) (h0 : 0 ≤ place) (h1 : place ≤ (szE u T : Int)) (hN : NearA T u place near) :
    near ≤ T.length ∧ ixE u place (EE T) < (EE T).length ∧ (∀ i, i < ixE u place (EE T) → ((EE T).getD i e0).1 ≤ near) ∧
    ∃ a, a < (EE T).length ∧ ((EE T).getD a e0).1 = flr T (near - 4) ∧ (byE u ((EE T).getD a e0) : Int) ≤ place := by
  have hinc := inc_EE hl u
  have hinc1 := inc_EE hl 1
  have e1 : ∀ d : Ed, byE 1 d = d.1 := fun d => rfl
  have hpl := (isPl_iff hinc (place := place)).2 ⟨h0, by rw [by_last hu]; exact h1⟩
  have hix : ixE u place (EE T) < (EE T).length := (of_decide_eq_true (show decide (0 ≤ place ∧ ixE u place (EE T) < (EE T).length) = true from hpl)).2
  have key : near ≤ T.length ∧ (∀ i, i < ixE u place (EE T) → ((EE T).getD i e0).1 ≤ near) ∧ ((ixE u place (EE T) = 0 ∧ near = 0) ∨ (u = 1 ∧ place = (near : Int)) ∨ (1 ≤ ixE u place (EE T) ∧ near ≤ ((EE T).getD (ixE u place (EE T) - 1) e0).1 + 4)) := by
    rcases hN with ⟨rfl, hp⟩ | ⟨hne, n, hF, hnear⟩
    · rw [sz_bytes hl] at h1
      refine ⟨by omega, fun i hi => ?_, .inr (.inl ⟨rfl, hp⟩)⟩
      have := ix_lt hi
      rw [e1] at this
      omega
    · have hlow : ∀ n : Nat, n ≤ T.length → setB u place (T.take n) = false → ∃ k, ((EE T).getD k e0).1 + 3 ≥ n ∧ k < ixE u place (EE T) := by
        intro n hn hb
        obtain ⟨k, k1, k2, k3, k4⟩ := settled hl n hn
        have hb' : ¬ place ≤ (szE u (T.take n) : Int) - (leftL (T.take n) : Int) := of_decide_eq_false hb
        rw [k4 u hu] at hb'
        push_cast at hb'
        refine ⟨k, by omega, ?_⟩
        apply Classical.byContradiction
        intro hh
        have h2 := hinc.le (i := ixE u place (EE T)) (j := k) (by omega) k1
        have h3 : place ≤ (byE u ((EE T).getD (ixE u place (EE T)) e0) : Int) := ix_ge hix
        omega
      have hup : ∀ n : Nat, n ≤ T.length → setB u place (T.take n) = true → ((EE T).getD (ixE u place (EE T)) e0).1 ≤ n := by
        intro n hn hb
        obtain ⟨k, k1, k2, k3, k4⟩ := settled hl n hn
        have hb' : place ≤ (szE u (T.take n) : Int) - (leftL (T.take n) : Int) := of_decide_eq_true hb
        rw [k4 u hu] at hb'
        push_cast at hb'
        have hk : ixE u place (EE T) ≤ k := by
          apply Classical.byContradiction
          intro hh
          have := ix_lt (r := u) (place := place) (E := EE T) (j := k) (by omega)
          omega
        have := hinc1.le hk k1
        rw [e1, e1] at this
        omega
      have hbel : ∀ i, i < ixE u place (EE T) → ((EE T).getD i e0).1 ≤ ((EE T).getD (ixE u place (EE T)) e0).1 := fun i hi => by
        have := hinc1.le (i := i) (j := ixE u place (EE T)) (by omega) hix
        rwa [e1, e1] at this
      have hprev : ∀ k, k < ixE u place (EE T) → ((EE T).getD k e0).1 ≤ ((EE T).getD (ixE u place (EE T) - 1) e0).1 := fun k hk => by
        have := hinc1.le (i := k) (j := ixE u place (EE T) - 1) (by omega) (by omega)
        rwa [e1, e1] at this
      rcases hF with ⟨hp0, rfl⟩ | ⟨hp0, hpT, rfl⟩ | ⟨hp0, m, rfl, m1, m2, m3, m4⟩
      · have hz : near = 0 := by simp at hnear; omega
        subst hz
        have hle := hup 0 (Nat.zero_le _) (by rw [List.take_zero]; exact hp0)
        have hix0 : ixE u place (EE T) = 0 := by
          apply Classical.byContradiction
          intro hh
          have := hinc1.2.2 0 (ixE u place (EE T)) (by omega) hix
          rw [e1, e1] at this
          omega
        exact ⟨Nat.zero_le _, fun i hi => by omega, .inl ⟨hix0, rfl⟩⟩
      · have hz : near = T.length := by simp at hnear; omega
        subst hz
        obtain ⟨k, k1, k2⟩ := hlow T.length (Nat.le_refl _) (by rw [List.take_length]; exact hpT)
        have := hprev k k2
        exact ⟨Nat.le_refl _, fun i hi => EE_bytes hl (by omega), .inr (.inr ⟨by omega, by omega⟩)⟩
      · have hz : near = m := by rw [if_neg (by omega)] at hnear; omega
        subst hz
        obtain ⟨k, k1, k2⟩ := hlow (near - 1) (by omega) m3
        have h5 := hprev k k2
        have h6 := hup near m2 m4
        exact ⟨m2, fun i hi => Nat.le_trans (hbel i hi) h6, .inr (.inr ⟨by omega, by omega⟩)⟩
  obtain ⟨k1, k2, k3⟩ := key
  refine ⟨k1, hix, k2, ?_⟩
  have hf := flr_le T (near - 4)
  obtain ⟨a, a1, a2⟩ := edge_ix hl (p := flr T (near - 4)) (by omega) (flr_edge T _)
  refine ⟨a, a1, a2, ?_⟩
  rcases k3 with ⟨z1, z2⟩ | ⟨rfl, hp⟩ | ⟨z1, z2⟩
  · subst z2
    have hz : flr T (0 - 4) = 0 := by omega
    rw [hz] at a2
    have ha0 : a = 0 := by
      apply Classical.byContradiction
      intro hh
      have := hinc1.2.2 0 a (by omega) a1
      rw [e1, e1] at this
      omega
    rw [ha0, hinc.1, by_e0]
    omega
  · rw [e1, a2]; omega
  · have hle : a ≤ ixE u place (EE T) - 1 := by
      apply Classical.byContradiction
      intro hh
      have := hinc1.2.2 (ixE u place (EE T) - 1) a (by omega) a1
      rw [e1, e1] at this
      omega
    have h7 := hinc.le hle (by omega)
    have h8 := ix_lt (r := u) (place := place) (E := EE T) (j := ixE u place (EE T) - 1) (by omega)
    omega
theorem find_ok {T : List Int} (hl : ∀ x ∈ T, 0 ≤ x ∧ x ≤ 255) {u place m : Int} {near : Nat} (hu : isRu u = true) (hm : isRu m = true) (h0 : 0 ≤ place) (h1 : place ≤ (szE u T : Int)) (hN : NearA T u place near) :
    toR u (place - (szE u (T.take (flr T (near - 4))) : Int)) 1 m (EE ((T.drop (flr T (near - 4))).take (min T.length (near + 4) - flr T (near - 4)))) = fdR u place m (EE T) ∧
    (fdR u place m (EE T) = 0 → flr T (near - 4) + toP u (place - (szE u (T.take (flr T (near - 4))) : Int)) 1 m (EE ((T.drop (flr T (near - 4))).take (min T.length (near + 4) - flr T (near - 4)))) = (fdE u place m (EE T)).1) := by
  obtain ⟨k1, k2, k3, a, a1, a2, a3⟩ := near_ok hl hu h0 h1 hN
  have hf := flr_le T (near - 4)
  obtain ⟨w1, w2⟩ := find_win (m := m) (near := near) hl a1 a3 k2 (by omega) k3
  have hs : szE u (T.take (flr T (near - 4))) = byE u ((EE T).getD a e0) := by rw [← a2]; exact sz_take hl hu a1
  rw [hs]
  rw [a2] at w1 w2
  have hc : (isRu u && (isRu 1 && isRu m)) = true := by rw [hu, hm]; rfl
  unfold toR toP
  rw [if_pos hc, if_pos hc, w1]
  refine ⟨rfl, fun h => ?_⟩
  rw [w2 h]
  rfl
end
section
attribute [local go_sem] Oper.semAt_some
theorem fold_counts {l : List Int} (hl : ∀ x ∈ l, 0 ≤ x ∧ x ≤ 255) : ∀ (ps : List Nat) (e : Ed), (∀ p ∈ ps, p < l.length) → (ps.foldl (nxE l) e).2.1 = e.2.1 + ps.length ∧ ((ps.foldl (nxE l) e).2.2 : Int) = (e.2.2 : Int) + usum l ps
  | [], e, _ => ⟨rfl, by simp [usum]⟩
  | p :: t, e, h => by
    obtain ⟨h1, h2⟩ := fold_counts hl t (nxE l e p) (fun x hx => h x (List.mem_cons_of_mem _ hx))
    have hr := rn_step hl (h p (List.mem_cons_self ..))
    have hu : ((ulen (first (l.drop p)).1).toNat : Int) = uni1 (first (l.drop p)).1 := by
      unfold ulen uni1
      rw [if_pos hr]
      split <;> split <;> omega
    rw [List.foldl_cons]
    refine ⟨?_, ?_⟩
    · rw [h1]; unfold nxE; simp only [List.length_cons]; omega
    · rw [h2]; unfold nxE; simp only [usum, List.map_cons, List.sum_cons]; push_cast; rw [hu]; omega
theorem spots_ltS {l : List Int} : ∀ (n p : Nat), l.length - p ≤ n → ∀ x ∈ spots l p, x < l.length
  | n, p, hn, x, hx => by
    by_cases hp : p < l.length
    · rw [spots_cons hp] at hx
      rcases List.mem_cons.1 hx with rfl | h
      · exact hp
      · cases n with
        | zero => omega
        | succ n =>
          have hw : 1 ≤ wid (l.drop p) := by
            have : l.drop p ≠ [] := by intro e; have := congrArg List.length e; rw [List.length_drop] at this; simp at this; omega
            cases hd : l.drop p with
            | nil => exact absurd hd this
            | cons a r => rw [wid_lng]; split <;> omega
          exact spots_ltS n (p + wid (l.drop p)) (by omega) x h
    · rw [spots_end hp] at hx; cases hx
theorem ru2S : isRu 2 = true := rfl
theorem ru3S : isRu 3 = true := rfl
theorem sz_is {l : List Int} (hl : ∀ x ∈ l, 0 ≤ x ∧ x ≤ 255) : (szL l).b = (szE 1 l : Int) ∧ (szL l).r = (szE 2 l : Int) ∧ (szL l).u = (szE 3 l : Int) := by
  obtain ⟨h1, h2⟩ := fold_counts hl (spots l 0) e0 (spots_ltS l.length 0 (by omega))
  refine ⟨by rw [sz_bytes hl]; rfl, ?_, ?_⟩
  · show ((spots l 0).length : Int) = (szE 2 l : Int)
    unfold szE
    rw [ru2S, if_pos rfl]
    show _ = ((stE l (spots l 0)).2.1 : Int)
    have e : (stE l (spots l 0)).2.1 = e0.2.1 + (spots l 0).length := h1
    rw [e, show e0.2.1 = 0 from rfl]; omega
  · show unN l = (szE 3 l : Int)
    unfold szE
    rw [ru3S, if_pos rfl]
    show _ = ((stE l (spots l 0)).2.2 : Int)
    have e : ((stE l (spots l 0)).2.2 : Int) = (e0.2.2 : Int) + usum l (spots l 0) := h2
    rw [e, show e0.2.2 = 0 from rfl]; unfold unN; simp
theorem byZ_is {l : List Int} (hl : ∀ x ∈ l, 0 ≤ x ∧ x ≤ 255) {u : Int} (hu : isRu u = true) : byZ u (szL l) = (szE u l : Int) := by
  obtain ⟨h1, h2, h3⟩ := sz_is hl
  have hr : 1 ≤ u ∧ u ≤ 3 := of_decide_eq_true hu
  have : u = 1 ∨ u = 2 ∨ u = 3 := by omega
  rcases this with rfl | rfl | rfl
  · exact h1
  · exact h2
  · exact h3
theorem where_k {T : List Int} {e i : Nat} (h : HoF T e i) (he : e ≤ T.length) :
    endsN (T.take e) = (i : Int) ∨ (endsN (T.take e) = (i : Int) + 1 ∧ i + 1 < (LN T).length ∧ e < ((LN T).getD (i + 1) z4).2.1) := by
  obtain ⟨a, b, c, d⟩ := LN_ends h.lt
  obtain ⟨_, _, k3⟩ := LN_at T h.lt
  have lo := h.lo
  have hi := h.hi
  rw [h.eq] at lo hi
  by_cases hc : e ≤ ((LN T).getD i z4).2.2.1
  · left
    have h1 := ends_leS T lo he
    have h2 := ends_leS T hc (Nat.le_trans k3.cn k3.nl)
    omega
  · right
    unfold lst at hi
    have hlt : i + 1 < (LN T).length := by
      apply Classical.byContradiction
      intro hh
      obtain ⟨_, d2, d3⟩ := d hh
      omega
    obtain ⟨c1, c2, c3⟩ := c hlt
    have h4 := (k3.mid hlt).2.2.2
    have h5 : ((LN T).getD i z4).2.2.2 ≤ ((LN T).getD i z4).2.2.1 + 2 := by rw [c3]; unfold nxt; have := (edw_pos (T.drop ((LN T).getD i z4).2.2.1)).2; omega
    have h6 : e = ((LN T).getD i z4).2.2.1 + 1 := by omega
    refine ⟨by rw [h6, c2], hlt, ?_⟩
    have := h.up hlt
    omega
theorem begin10_at (g : Nat) (o : Option Nd) (k : Nat) (w : World) (h : IsRo w g o) (hk : k < (LN (txtO o)).length) (hm : (txtO o).length ≤ 268435456) (hW : Wt w) :
    Calls Tryz.prog 54 #[.pointer (some ⟨g, 0, none⟩), .int .i64 (k : Int)] w fun y w' => y = .returned (.int .i64 (((LN (txtO o)).getD k z4).2.1 : Int)) ∧ Below w.heap.size w w' := by
  cases k with
  | zero =>
    have h0 := (LN_at (txtO o) hk).2.1 rfl
    rw [h0]
    clear h hk hm hW h0
    go_enter Tryz.func54, Tryz.ntmps54
    go_wp2_with fail
    go_ret
    exact ⟨rfl, Below.refl _ _⟩
  | succ j =>
    have h1 := ((LN_at (txtO o) (i := j) (by omega)).2.2.mid hk).2.2.2
    have hj : j ≤ 268435457 := by have := LN_len (txtO o); omega
    have HE := hide (ending10_at g o j w h (by omega) hm hW)
    have w1 : wrap64 (j : Int) = (j : Int) := wrap_in _ (by omega) (by omega)
    have w2 : wrap64 ((j : Int) + 1 - 1) = (j : Int) := by rw [wrap_in _ (by omega) (by omega)]; omega
    have d1 : decide ((j : Int) + 1 = 0) = false := decide_eq_false (by omega)
    have d2 : ((j : Int) + 1 == 0) = false := by simp; omega
    rw [h1]
    push_cast
    generalize (((LN (txtO o)).getD j z4).2.2.2 : Int) = nv at *
    clear h hk hm hW h1 hj
    go_enter Tryz.func54, Tryz.ntmps54
    go_wp2_with fail
    refine (unhide HE).mono ?_
    rintro y w1 ⟨rfl, x1⟩
    dsimp only
    go_wp2_with fail
    go_ret
    exact ⟨rfl, x1⟩
end
section
attribute [local go_sem] Oper.semAt_some
theorem resW10 {X : World} {a : Nat} {t : TypeId} {x0 x1 x2 x3 x4 x5 x6 : Int} {v : Value} (tmps : Array Value) (g4 : tmps[4]?.getD undef = .pointer (some ⟨a, 0, none⟩)) (g5 : tmps[5]?.getD undef = v)
    (h : Cls X a t #[.int .i64 x0, .int .i64 x1, .int .i64 x2, .int .i64 x3, .int .i64 x4, .int .i64 x5, .int .i64 x6]) : (results Tryz.f21 tmps).run Tryz.prog X = .ok (.tuple #[.agg #[.int .i64 x0, .int .i64 x1, .int .i64 x2, .int .i64 x3, .int .i64 x4, .int .i64 x5, .int .i64 x6], v]) X := by
  have p0 : X.cell? ⟨a, 0, none⟩ = some (.int .i64 x0) := (h.cell 0).trans rfl
  have p1 : X.cell? ⟨a, 1, none⟩ = some (.int .i64 x1) := (h.cell 1).trans rfl
  have p2 : X.cell? ⟨a, 2, none⟩ = some (.int .i64 x2) := (h.cell 2).trans rfl
  have p3 : X.cell? ⟨a, 3, none⟩ = some (.int .i64 x3) := (h.cell 3).trans rfl
  have p4 : X.cell? ⟨a, 4, none⟩ = some (.int .i64 x4) := (h.cell 4).trans rfl
  have p5 : X.cell? ⟨a, 5, none⟩ = some (.int .i64 x5) := (h.cell 5).trans rfl
  have p6 : X.cell? ⟨a, 6, none⟩ = some (.int .i64 x6) := (h.cell 6).trans rfl
  simp [results, Tryz.results21, go_sem, g4, g5, p0, p1, p2, p3, p4, p5, p6]
theorem szV_eq (l : List Int) : szV (szL l) = .agg #[.int .i64 (szL l).b, .int .i64 (szL l).r, .int .i64 (szL l).u, .int .i64 (szL l).e] := rfl
theorem Where10_of (g e k i s s1 : Nat) (p hr hu tr tu cb cr cu : Int) (w : World)
    (HF : Hid (∀ X, Below w.heap.size w X → Calls Tryz.prog 30 #[.pointer (some ⟨g, 0, none⟩), .int .i64 p] X fun y w' => y = .returned (.tuple #[.int .i64 (e : Int), .int .i64 0]) ∧ Below X.heap.size X w'))
    (HA : Hid (∀ X, Below w.heap.size w X → Calls Tryz.prog 52 #[.func (.func 53) #[.pointer (some ⟨g, 0, none⟩)] #[], .int .i64 (e : Int)] X fun y w' => y = .returned (.agg #[.int .i64 (e : Int), .int .i64 hr, .int .i64 hu, .int .i64 (k : Int)]) ∧ Below X.heap.size X w'))
    (HS : Hid (∀ X, Below w.heap.size w X → Calls Tryz.prog 52 #[.func (.func 53) #[.pointer (some ⟨g, 0, none⟩)] #[], .int .i64 (s : Int)] X fun y w' => (∃ q : Int, y = .returned (.agg #[.int .i64 (s : Int), .int .i64 tr, .int .i64 tu, .int .i64 q])) ∧ Below X.heap.size X w'))
    (HB : Hid (∀ X, Below w.heap.size w X → Calls Tryz.prog 54 #[.pointer (some ⟨g, 0, none⟩), .int .i64 (k : Int)] X fun y w' => y = .returned (.int .i64 (s1 : Int)) ∧ Below X.heap.size X w'))
    (HI : Hid (∀ X, Below w.heap.size w X → Calls Tryz.prog 54 #[.pointer (some ⟨g, 0, none⟩), .int .i64 (i : Int)] X fun y w' => y = .returned (.int .i64 (s : Int)) ∧ Below X.heap.size X w'))
    (hc : (k = i ∧ s1 = s ∧ s ≤ e) ∨ (k = i + 1 ∧ e < s1 ∧ i ≤ 268435457)) (wb : wrap64 ((e : Int) - (s : Int)) = cb) (wr : wrap64 (hr - tr) = cr) (wu : wrap64 (hu - tu) = cu) :
    Calls Tryz.prog 21 #[.pointer (some ⟨g, 0, none⟩), .int .i64 p] w fun y w' => y = .returned (.tuple #[.agg #[.int .i64 (e : Int), .int .i64 hr, .int .i64 hu, .int .i64 (i : Int), .int .i64 cb, .int .i64 cr, .int .i64 cu], .int .i64 0]) ∧ Below w.heap.size w w' := by
  have kS : Cls (w.alloc (.cells #[.int .i64 0, .int .i64 0, .int .i64 0, .int .i64 0, .int .i64 0, .int .i64 0, .int .i64 0] 61)) w.heap.size 61 wh0 := Cls.new w 61 _
  have b0 := (Below.refl w.heap.size w).alloc (Nat.le_refl _) (.cells #[.int .i64 0, .int .i64 0, .int .i64 0, .int .i64 0, .int .i64 0, .int .i64 0, .int .i64 0] 61)
  have HC := hide hc
  clear hc
  go_enter Tryz.func21, Tryz.ntmps21
  go_upto_region 1 with fail
  generalize w.alloc (.cells #[.int .i64 0, .int .i64 0, .int .i64 0, .int .i64 0, .int .i64 0, .int .i64 0, .int .i64 0] 61) = w0 at *
  go_wp2_with fail
  refine (unhide HF w0 b0).mono ?_
  rintro y w1 ⟨rfl, x1⟩
  dsimp only
  have X1 := b0.trans (x1.mono b0.size)
  have k1 := kS.below x1 kS.lt
  clear x1 b0 kS
  go_wp2_with fail
  refine (unhide HA w1 X1).mono ?_
  rintro y w2 ⟨rfl, x2⟩
  dsimp only
  have X2 := X1.trans (x2.mono X1.size)
  have k2 := k1.below x2 k1.lt
  clear x2 X1 k1
  go_upto_region 5 with fail
  have x3 := (Below.refl w2.heap.size w2).alloc (Nat.le_refl _) (.cells #[.int .i64 (e : Int), .int .i64 hr, .int .i64 hu, .int .i64 (k : Int)] 45)
  have g3 := push_get w2 (.cells #[.int .i64 (e : Int), .int .i64 hr, .int .i64 hu, .int .i64 (k : Int)] 45)
  generalize w2.alloc (.cells #[.int .i64 (e : Int), .int .i64 hr, .int .i64 hu, .int .i64 (k : Int)] 45) = w3 at *
  have X3 := X2.trans (x3.mono X2.size)
  have k3 := k2.below x3 k2.lt
  generalize w2.heap.size = gH at *
  clear x3 X2 k2
  obtain ⟨c0, c1, c2, c3, _⟩ := cells4 g3
  have G3 := hide g3
  clear g3
  go_wp2_with fail
  refine (unhide HB w3 X3).mono ?_
  rintro y w4 ⟨rfl, x4⟩
  dsimp only
  have X4 := X3.trans (x4.mono X3.size)
  have k4 := k3.below x4 k3.lt
  have g4 := bk9_on (unhide G3) x4
  clear x4 X3 k3 G3 c0 c1 c2 c3
  rcases unhide HC with ⟨rfl, rfl, hle⟩ | ⟨rfl, hlt, hik⟩
  · have dd : decide ((s1 : Int) > (e : Int)) = false := decide_eq_false (by omega)
    have dd2 : decide ((e : Int) < (s1 : Int)) = false := decide_eq_false (by omega)
    have dd3 : decide (e < s1) = false := decide_eq_false (by omega)
    clear hle HC
    go_wp2_with fail
    refine (unhide HS w4 X4).mono ?_
    rintro y w5 ⟨⟨q, rfl⟩, x5⟩
    dsimp only
    have X5 := X4.trans (x5.mono X4.size)
    have k5 := k4.below x5 k4.lt
    have g5 := bk9_on g4 x5
    clear x5 X4 k4 g4
    go_upto_region 11 with fail
    have x6 := (Below.refl w5.heap.size w5).alloc (Nat.le_refl _) (.cells #[.int .i64 (s1 : Int), .int .i64 tr, .int .i64 tu, .int .i64 q] 45)
    have g6 := push_get w5 (.cells #[.int .i64 (s1 : Int), .int .i64 tr, .int .i64 tu, .int .i64 q] 45)
    generalize w5.alloc (.cells #[.int .i64 (s1 : Int), .int .i64 tr, .int .i64 tu, .int .i64 q] 45) = w6 at *
    have X6 := X5.trans (x6.mono X5.size)
    have k6 := k5.below x6 k5.lt
    have h6 := bk9_on g5 x6
    generalize w5.heap.size = gT at *
    obtain ⟨c0, c1, c2, c3, _⟩ := cells4 h6
    obtain ⟨d0, d1, d2, d3, _⟩ := cells4 g6
    have cz := cells7 k6
    have z0 := cz 0 (by omega)
    have z1 := cz 1 (by omega)
    have z2 := cz 2 (by omega)
    have z3 := cz 3 (by omega)
    have z4' := cz 4 (by omega)
    have z5 := cz 5 (by omega)
    have z6 := cz 6 (by omega)
    have f0 := k6.frozen 0
    have f1 := k6.frozen 1
    have f2 := k6.frozen 2
    have f3 := k6.frozen 3
    have f4 := k6.frozen 4
    have f5 := k6.frozen 5
    have f6 := k6.frozen 6
    have K6 := hide k6
    have XX := hide X6
    clear x6 X5 k5 g5 h6 g6 cz k6 X6
    go_wp2_with fail
    obtain ⟨s1', s2'⟩ := sets7 _ 61 (.int .i64 (e : Int)) (.int .i64 hr) (.int .i64 hu) (.int .i64 (k : Int)) (.int .i64 cb) (.int .i64 cr) (.int .i64 cu) (unhide K6)
    refine bodyPost_ret (resW10 _ rfl rfl s1') rfl ?_
    exact ⟨rfl, (unhide XX).trans s2'⟩
  · have dd : decide ((s1 : Int) > (e : Int)) = true := decide_eq_true (by omega)
    have dd2 : decide ((e : Int) < (s1 : Int)) = true := decide_eq_true (by omega)
    have dd3 : decide (e < s1) = true := decide_eq_true (by omega)
    have wk : wrap64 (i : Int) = (i : Int) := wrap_in _ (by omega) (by omega)
    push_cast at g4
    push_cast
    clear hlt hik HC
    go_wp2_with fail
    refine (unhide HI w4 X4).mono ?_
    rintro y w4' ⟨rfl, x4⟩
    dsimp only
    have X4' := X4.trans (x4.mono X4.size)
    have k4' := k4.below x4 k4.lt
    have g4' := bk9_on g4 x4
    clear x4 X4 k4 g4
    go_wp2_with fail
    refine (unhide HS w4' X4').mono ?_
    rintro y w5 ⟨⟨q, rfl⟩, x5⟩
    dsimp only
    have X5 := X4'.trans (x5.mono X4'.size)
    have k5 := k4'.below x5 k4'.lt
    have g5 := bk9_on g4' x5
    clear x5 X4' k4' g4'
    go_upto_region 11 with fail
    have x6 := (Below.refl w5.heap.size w5).alloc (Nat.le_refl _) (.cells #[.int .i64 (s : Int), .int .i64 tr, .int .i64 tu, .int .i64 q] 45)
    have g6 := push_get w5 (.cells #[.int .i64 (s : Int), .int .i64 tr, .int .i64 tu, .int .i64 q] 45)
    generalize w5.alloc (.cells #[.int .i64 (s : Int), .int .i64 tr, .int .i64 tu, .int .i64 q] 45) = w6 at *
    have X6 := X5.trans (x6.mono X5.size)
    have k6 := k5.below x6 k5.lt
    have h6 := bk9_on g5 x6
    generalize w5.heap.size = gT at *
    obtain ⟨c0, c1, c2, c3, _⟩ := cells4 h6
    obtain ⟨d0, d1, d2, d3, _⟩ := cells4 g6
    have cz := cells7 k6
    have z0 := cz 0 (by omega)
    have z1 := cz 1 (by omega)
    have z2 := cz 2 (by omega)
    have z3 := cz 3 (by omega)
    have z4' := cz 4 (by omega)
    have z5 := cz 5 (by omega)
    have z6 := cz 6 (by omega)
    have f0 := k6.frozen 0
    have f1 := k6.frozen 1
    have f2 := k6.frozen 2
    have f3 := k6.frozen 3
    have f4 := k6.frozen 4
    have f5 := k6.frozen 5
    have f6 := k6.frozen 6
    have K6 := hide k6
    have XX := hide X6
    clear x6 X5 k5 g5 h6 g6 cz k6 X6
    go_wp2_with fail
    obtain ⟨s1', s2'⟩ := sets7 _ 61 (.int .i64 (e : Int)) (.int .i64 hr) (.int .i64 hu) (.int .i64 (i : Int)) (.int .i64 cb) (.int .i64 cr) (.int .i64 cu) (unhide K6)
    refine bodyPost_ret (resW10 _ rfl rfl s1') rfl ?_
    exact ⟨rfl, (unhide XX).trans s2'⟩
end
end Go.Proofs.YteamaneompijkaaGreatDoor
