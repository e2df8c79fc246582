/- Layer 13: composed and Compose. -/
import Derived.Test.YtdemagijhmbdcaaDo25
import Derived.Deep.LoopGhost

namespace Go.Proofs.Ytdemagijhmbdcaa
open Go.ChangeShapes Go.WideShapes Go.ChangeAt Go.RowKit
attribute [local go_sem] Oper.semAt_some

/-- the loop's state -/
structure CmI (w : World) (B gf gt gB : Nat) (C : List Atm) (k : Nat) (X : World) (rf : List Dop) (uf : Nat) (rt : List Dop) (ut : Nat) (acc : List Atm) : Prop where
  s : CmS w B gf gt gB X rf uf rt ut acc
  e : acc ++ cmpA (remA rf uf) (remA rt ut) = C
  q : toA (remA rf uf) = frA (remA rt ut)
  m : k = (remA rf uf).length + (remA rt ut).length
theorem run_len (k : Int) (t : List Int) (n : Nat) (h : k = 2 → t.length = n) : (runR k t n).length = n := by
  unfold runR
  split
  · simp
  · split
    · rename_i h2; simp [h h2]
    · simp
theorem run_sizes (k : Int) (t : List Int) (n : Nat) (h : k = 2 → t.length = n) : (k = 1 → frA (runR k t n) = n ∧ toA (runR k t n) = n) ∧ (k = 2 → frA (runR k t n) = 0 ∧ toA (runR k t n) = n) ∧ (k = 3 → frA (runR k t n) = n ∧ toA (runR k t n) = 0) := by
  refine ⟨fun hk => ?_, fun hk => ?_, fun hk => ?_⟩
  · subst hk; exact fr_rep_k n
  · subst hk; have := fr_map_p t; rw [h rfl] at this; exact this
  · subst hk; exact fr_rep_d n
theorem CmI.dropF {w : World} {B gf gt gB : Nat} {C : List Atm} {k : Nat} {X Y : World} {o : Dop} {rf : List Dop} {uf : Nat} {rt : List Dop} {ut : Nat} {acc : List Atm} (h : CmI w B gf gt gB C k X (o :: rf) uf rt ut acc) (hk : o.k = 3)
    (hY : CmS w B gf gt gB Y (tkR (o :: rf) uf (lfR (o :: rf) uf)).1 (tkR (o :: rf) uf (lfR (o :: rf) uf)).2 rt ut (acc ++ List.replicate (lfR (o :: rf) uf) .d)) : ∃ k', k' < k ∧ CmI w B gf gt gB C k' Y (tkR (o :: rf) uf (lfR (o :: rf) uf)).1 (tkR (o :: rf) uf (lfR (o :: rf) uf)).2 rt ut (acc ++ List.replicate (lfR (o :: rf) uf) .d) := by
  have hu := rdK_hd h.s.f.k
  have hl : 1 ≤ lfR (o :: rf) uf := by simp only [lfR]; omega
  obtain ⟨e1, _, e3⟩ := rem_run h.s.f.k (n := lfR (o :: rf) uf) ⟨hl, Nat.le_refl _⟩
  have hr : runR o.k (txR (o :: rf) uf (lfR (o :: rf) uf)) (lfR (o :: rf) uf) = List.replicate (lfR (o :: rf) uf) .d := by rw [hk]; rfl
  rw [hr] at e1
  have he := h.e
  have hq := h.q
  have hm := h.m
  rw [e1] at he hq hm
  rw [cmp_drops, ← List.append_assoc] at he
  rw [to_app, (fr_rep_d _).2, Nat.zero_add] at hq
  rw [List.length_append, List.length_replicate] at hm
  exact ⟨_, by omega, hY, he, hq, rfl⟩
theorem rem_head {o : Dop} {r : List Dop} {u : Nat} (h : RdK (o :: r) u) (hk : o.k ≠ 3) : ∀ x, (remA (o :: r) u).head? = some x → x ≠ .d := by
  have hu := rdK_hd h
  obtain ⟨e1, _, e3⟩ := rem_run h (n := 1) ⟨Nat.le_refl _, by simp only [lfR]; omega⟩
  rw [e1]
  intro x hx hd
  subst hd
  unfold runR at hx
  split at hx
  · simp at hx
  · split at hx
    · rename_i h2
      have := e3 h2
      cases ht : txR (o :: r) u 1 with
      | nil => rw [ht] at this; simp at this
      | cons y ys => rw [ht] at hx; simp at hx
    · rename_i h1 h2
      rcases h.p o (by simp) with ⟨h3 | h3, _⟩ | ⟨h3, _⟩
      · exact h1 h3
      · exact hk h3
      · exact h2 h3
theorem CmI.putT {w : World} {B gf gt gB : Nat} {C : List Atm} {k : Nat} {X Y : World} {rf : List Dop} {uf : Nat} {p : Dop} {rt : List Dop} {ut : Nat} {acc : List Atm} (h : CmI w B gf gt gB C k X rf uf (p :: rt) ut acc) (hf : kdR rf ≠ 3) (hk : p.k = 2)
    (hY : CmS w B gf gt gB Y rf uf (tkR (p :: rt) ut (lfR (p :: rt) ut)).1 (tkR (p :: rt) ut (lfR (p :: rt) ut)).2 (acc ++ (txR (p :: rt) ut (lfR (p :: rt) ut)).map .p)) : ∃ k', k' < k ∧ CmI w B gf gt gB C k' Y rf uf (tkR (p :: rt) ut (lfR (p :: rt) ut)).1 (tkR (p :: rt) ut (lfR (p :: rt) ut)).2 (acc ++ (txR (p :: rt) ut (lfR (p :: rt) ut)).map .p) := by
  have hu := rdK_hd h.s.t.k
  have hl : 1 ≤ lfR (p :: rt) ut := by simp only [lfR]; omega
  obtain ⟨e1, _, e3⟩ := rem_run h.s.t.k (n := lfR (p :: rt) ut) ⟨hl, Nat.le_refl _⟩
  have hr : runR p.k (txR (p :: rt) ut (lfR (p :: rt) ut)) (lfR (p :: rt) ut) = (txR (p :: rt) ut (lfR (p :: rt) ut)).map .p := by rw [hk]; rfl
  rw [hr] at e1
  have he := h.e
  have hq := h.q
  have hm := h.m
  have h3 := e3 hk
  rw [e1] at he hq hm
  have hh : ∀ x, (remA rf uf).head? = some x → x ≠ .d := by
    cases rf with
    | nil => intro x hx; simp [remA, dA] at hx
    | cons o r => exact rem_head h.s.f.k hf
  rw [cmp_puts _ _ _ hh, ← List.append_assoc] at he
  rw [fr_app, (fr_map_p _).1, Nat.zero_add] at hq
  rw [List.length_append, List.length_map] at hm
  exact ⟨_, by omega, hY, he, hq, rfl⟩
theorem CmI.both {w : World} {B gf gt gB : Nat} {C : List Atm} {k n : Nat} {X Y : World} {o : Dop} {rf : List Dop} {uf : Nat} {p : Dop} {rt : List Dop} {ut : Nat} {acc : List Atm} (h : CmI w B gf gt gB C k X (o :: rf) uf (p :: rt) ut acc) (hn : n = min (lfR (o :: rf) uf) (lfR (p :: rt) ut)) (kf : o.k = 1 ∨ o.k = 2) (kt : p.k = 1 ∨ p.k = 3)
    (hY : CmS w B gf gt gB Y (tkR (o :: rf) uf n).1 (tkR (o :: rf) uf n).2 (tkR (p :: rt) ut n).1 (tkR (p :: rt) ut n).2 (acc ++ outT o.k p.k (txR (o :: rf) uf n) n)) : ∃ k', k' < k ∧ CmI w B gf gt gB C k' Y (tkR (o :: rf) uf n).1 (tkR (o :: rf) uf n).2 (tkR (p :: rt) ut n).1 (tkR (p :: rt) ut n).2 (acc ++ outT o.k p.k (txR (o :: rf) uf n) n) := by
  have hu1 := rdK_hd h.s.f.k
  have hu2 := rdK_hd h.s.t.k
  have l1 : lfR (o :: rf) uf = szO o - uf := rfl
  have l2 : lfR (p :: rt) ut = szO p - ut := rfl
  obtain ⟨e1, _, e3⟩ := rem_run h.s.f.k (n := n) (by omega)
  obtain ⟨f1, _, f3⟩ := rem_run h.s.t.k (n := n) (by omega)
  have g1 := run_len o.k _ n e3
  have g2 := run_len p.k _ n f3
  have s1 := run_sizes o.k _ n e3
  have s2 := run_sizes p.k _ n f3
  have he := h.e
  have hq := h.q
  have hm := h.m
  rw [e1, f1] at he hq hm
  rw [to_app, fr_app] at hq
  rw [List.length_append, List.length_append, g1, g2] at hm
  refine ⟨_, ?_, hY, ?_, ?_, rfl⟩
  · omega
  · rw [← he, List.append_assoc]
    congr 1
    rcases kf with kf | kf <;> rcases kt with kt | kt <;> rw [kf, kt]
    · exact (cmp_kk n _ _).symm
    · exact (cmp_kd n _ _).symm
    · have := cmp_pk (txR (o :: rf) uf n) (remA (tkR (o :: rf) uf n).1 (tkR (o :: rf) uf n).2) (remA (tkR (p :: rt) ut n).1 (tkR (p :: rt) ut n).2)
      rw [e3 kf] at this
      exact this.symm
    · have := cmp_pd (txR (o :: rf) uf n) (remA (tkR (o :: rf) uf n).1 (tkR (o :: rf) uf n).2) (remA (tkR (p :: rt) ut n).1 (tkR (p :: rt) ut n).2)
      rw [e3 kf] at this
      exact this.symm
  · rcases kf with kf | kf <;> rcases kt with kt | kt
    · rw [(s1.1 kf).2, (s2.1 kt).1] at hq; omega
    · rw [(s1.1 kf).2, (s2.2.2 kt).1] at hq; omega
    · rw [(s1.2.1 kf).2, (s2.1 kt).1] at hq; omega
    · rw [(s1.2.1 kf).2, (s2.2.2 kt).1] at hq; omega
theorem CmI.acc {w : World} {B gf gt gB : Nat} {C : List Atm} {k : Nat} {X : World} {rf : List Dop} {uf : Nat} {rt : List Dop} {ut : Nat} {acc : List Atm} (h : CmI w B gf gt gB C k X rf uf rt ut acc) : acc.length ≤ C.length := by
  rw [← h.e, List.length_append]; omega
theorem fr_pos {p : Dop} {rt : List Dop} {ut : Nat} (h : RdK (p :: rt) ut) (hk : p.k ≠ 2) : 1 ≤ frA (remA (p :: rt) ut) := by
  have hu := rdK_hd h
  obtain ⟨e1, _, e3⟩ := rem_run h (n := 1) ⟨Nat.le_refl _, by simp only [lfR]; omega⟩
  have s := run_sizes p.k _ 1 e3
  rw [e1, fr_app]
  rcases h.p p (by simp) with ⟨h3 | h3, _⟩ | ⟨h3, _⟩
  · rw [(s.1 h3).1]; omega
  · rw [(s.2.2 h3).1]; omega
  · exact absurd h3 hk
theorem to_pos {o : Dop} {rf : List Dop} {uf : Nat} (h : RdK (o :: rf) uf) (hk : o.k ≠ 3) : 1 ≤ toA (remA (o :: rf) uf) := by
  have hu := rdK_hd h
  obtain ⟨e1, _, e3⟩ := rem_run h (n := 1) ⟨Nat.le_refl _, by simp only [lfR]; omega⟩
  have s := run_sizes o.k _ 1 e3
  rw [e1, to_app]
  rcases h.p o (by simp) with ⟨h3 | h3, _⟩ | ⟨h3, _⟩
  · rw [(s.1 h3).2]; omega
  · exact absurd h3 hk
  · rw [(s.2.1 h3).2]; omega
set_option maxRecDepth 100000 in
set_option maxHeartbeats 4000000 in
theorem composed_at (a : Option Addr) (c : Nat) (d : List Dop) (a' : Option Addr) (c' : Nat) (e : List Dop) (w : World) (h : IsO w a d) (h' : IsO w a' e) (hc : d.length ≤ c) (hc' : e.length ≤ c') (hk : RdK d 0) (hk' : RdK e 0) (hf : toA (dA d) = frA (dA e)) (hl : (cmpA (dA d) (dA e)).length ≤ 536870912) :
    Calls Try.prog 34 #[.slice a d.length c, .slice a' e.length c'] w fun y w' => ∃ v, y = .returned v ∧ w'.ownsRow w.heap.size 34 3 v (canA (cmpA (dA d) (dA e))).length (opsV (canA (cmpA (dA d) (dA e)))) ∧ Below w.heap.size w w' := by
  obtain ⟨C, hC⟩ : ∃ C, C = cmpA (dA d) (dA e) := ⟨_, rfl⟩
  rw [← hC] at hl ⊢
  have z0 : (w.alloc (.cells #[.slice a d.length c, .int .i64 0] 83)).heap.size = w.heap.size + 1 := World.size_alloc ..
  have z1 : ((w.alloc (.cells #[.slice a d.length c, .int .i64 0] 83)).alloc (.cells #[.slice a' e.length c', .int .i64 0] 83)).heap.size = w.heap.size + 2 := by rw [World.size_alloc, z0]
  have HI0 : Hid (CmI w (w.heap.size + 2) w.heap.size (w.heap.size + 1) (w.heap.size + 2) C ((dA d).length + (dA e).length) (((w.alloc (.cells #[.slice a d.length c, .int .i64 0] 83)).alloc (.cells #[.slice a' e.length c', .int .i64 0] 83)).alloc (.cells #[.slice none 0 0, .int .i64 0, .slice none 0 0, .int .i64 0] 70)) d 0 e 0 []) := hide (by
    refine ⟨⟨⟨⟨a, c, ?_, h, hc⟩, Nat.le_refl _, hk⟩, ⟨⟨a', c', ?_, h', hc'⟩, by omega, hk'⟩, ⟨[], ?_⟩, ?_, ?_⟩, ?_, ?_, ?_⟩
    · exact Cls.alloc (Cls.alloc (Cls.new w _ _) _) _
    · have := Cls.new (w.alloc (.cells #[.slice a d.length c, .int .i64 0] 83)) 83 #[.slice a' e.length c', .int .i64 0]
      rw [z0] at this
      exact Cls.alloc this _
    · have := bd_new ((w.alloc (.cells #[.slice a d.length c, .int .i64 0] 83)).alloc (.cells #[.slice a' e.length c', .int .i64 0] 83))
      rw [z1] at this
      exact this
    · exact (((Below.refl _ _).alloc (Nat.le_refl _) _).alloc (by omega) _).alloc (by omega) _
    · rw [World.size_alloc, z1]; omega
    · rw [hC]; simp [remA]
    · simpa [remA] using hf
    · simp [remA])
  have HL := hide hl
  clear h h' hc hc' hk hk' hf hl hC
  go_enter Try.func34, Try.ntmps34
  go_upto_region 2 with fail
  generalize hw2 : (w.alloc (.cells #[.slice a d.length c, .int .i64 0] 83)).alloc (.cells #[.slice a' e.length c', .int .i64 0] 83) = w2 at *
  clear z0 hw2
  go_wp2_with fail
  try rw [z1]
  clear z1
  generalize w2.alloc (.cells #[.slice none 0 0, .int .i64 0, .slice none 0 0, .int .i64 0] 70) = w3 at *
  have HZB : Hid (w.heap.size ≤ w.heap.size + 2) := hide (by omega)
  generalize hgB : w.heap.size + 2 = gB at *
  generalize w.heap.size + 1 = gt at *
  generalize hgf : w.heap.size = gf at HI0 ⊢
  generalize (dA d).length + (dA e).length = k0 at *
  go_loopg [8] k0 (fun k v8 wr => (∃ z, v8 = z) ∧ Hid (∃ rf uf rt ut acc, CmI w gB gf gt gB C k wr rf uf rt ut acc))
  case atStart => exact ⟨⟨_, rfl⟩, hide ⟨_, _, _, _, _, unhide HI0⟩⟩
  case round =>
    clear HI0
    obtain ⟨⟨z1, rfl⟩, HI⟩ := hrel
    obtain ⟨rf, uf, rt, ut, acc, hI⟩ := unhide HI
    clear HI
    have hacc : acc.length ≤ 1073741824 := by have := hI.acc; have := unhide HL; omega
    have HI := hide hI
    have HK1 := hide (rkind_at w wr gf rf uf hI.s.f hI.s.d)
    have HK2 := hide (rkind_at w wr gt rt ut hI.s.t hI.s.d)
    by_cases hk3 : kdR rf = 3
    · obtain ⟨o, rf', rfl⟩ : ∃ o rf', rf = o :: rf' := by cases rf with | nil => exact absurd hk3 (by decide) | cons o r => exact ⟨o, r, rfl⟩
      have ho : o.k = 3 := hk3
      rw [hk3] at HK1
      have hu := rdK_hd hI.s.f.k
      have hsz := hI.s.f.k.s o (by simp)
      have hn1 : 1 ≤ lfR (o :: rf') uf ∧ lfR (o :: rf') uf ≤ lfR (o :: rf') uf := by simp only [lfR]; omega
      have hnb : lfR (o :: rf') uf ≤ 536870912 := by simp only [lfR]; omega
      have HL1 := hide (rl_at w wr gf o rf' uf hI.s.f hI.s.d)
      have HT1 := hide fun (Y : World) (hY : CmS w gB gf gt gB Y (o :: rf') uf rt ut acc) => (rtake_at w Y gf o rf' uf (lfR (o :: rf') uf) hY.f hn1 hY.d).mono (R' := fun y Z => y = .returned (.string (strOfNums (txR (o :: rf') uf (lfR (o :: rf') uf)))) ∧ CmS w gB gf gt gB Z (tkR (o :: rf') uf (lfR (o :: rf') uf)).1 (tkR (o :: rf') uf (lfR (o :: rf') uf)).2 rt ut acc) fun y Z ⟨e, h1, h2⟩ => ⟨e, hY.takeF h1 h2⟩
      have HD := hide fun (Y : World) (hY : CmS w gB gf gt gB Y (tkR (o :: rf') uf (lfR (o :: rf') uf)).1 (tkR (o :: rf') uf (lfR (o :: rf') uf)).2 rt ut acc) => hY.drop (lfR (o :: rf') uf) hnb hacc
      have HN := hide fun (Y : World) (hY : CmS w gB gf gt gB Y (tkR (o :: rf') uf (lfR (o :: rf') uf)).1 (tkR (o :: rf') uf (lfR (o :: rf') uf)).2 rt ut (acc ++ List.replicate (lfR (o :: rf') uf) .d)) => hI.dropF ho hY
      have HS := hide hI.s
      clear hI HI HK2 hk3 ho hu hsz hn1 hnb hacc
      generalize lfR (o :: rf') uf = nn at *
      go_wp2_with fail
      refine (unhide HK1).mono ?_
      rintro y X1 ⟨rfl, hX⟩
      subst hX
      dsimp only
      clear HK1
      go_wp2_with fail
      refine (unhide HL1).mono ?_
      rintro y X2 ⟨rfl, m1, rfl⟩
      dsimp only
      have HS1 := hide ((unhide HS).drewN m1)
      have HT1' := hide (unhide HT1 _ (unhide HS1))
      clear HL1 HT1 HS HS1
      generalize X1.drewN m1 = Y1 at *
      go_wp2_with fail
      refine (unhide HT1').mono ?_
      rintro y Y2 ⟨rfl, h2⟩
      dsimp only
      have HD' := hide (unhide HD _ h2)
      clear HT1' HD h2
      go_wp2_with fail
      refine (unhide HD').mono ?_
      rintro y Y3 ⟨rfl, h3⟩
      dsimp only
      obtain ⟨k', hk', hI'⟩ := unhide HN _ h3
      have HI3 := hide hI'
      clear HD' HN h3 hI'
      go_wp2_with fail
      go_roundg k'
      case measure => exact hk'
      case rel => exact ⟨⟨_, rfl⟩, hide ⟨_, _, _, _, _, unhide HI3⟩⟩
    · have t1 : (kdR rf == 3) = false := by simpa using hk3
      by_cases hk2 : kdR rt = 2
      · obtain ⟨p, rt', rfl⟩ : ∃ o rf', rt = o :: rf' := by cases rt with | nil => exact absurd hk2 (by decide) | cons o r => exact ⟨o, r, rfl⟩
        have ho : p.k = 2 := hk2
        rw [hk2] at HK2
        have hu := rdK_hd hI.s.t.k
        have hn1 : 1 ≤ lfR (p :: rt') ut ∧ lfR (p :: rt') ut ≤ lfR (p :: rt') ut := by simp only [lfR]; omega
        have HL1 := hide (rl_at w wr gt p rt' ut hI.s.t hI.s.d)
        have HT1 := hide fun (Y : World) (hY : CmS w gB gf gt gB Y rf uf (p :: rt') ut acc) => (rtake_at w Y gt p rt' ut (lfR (p :: rt') ut) hY.t hn1 hY.d).mono (R' := fun y Z => y = .returned (.string (strOfNums (txR (p :: rt') ut (lfR (p :: rt') ut)))) ∧ CmS w gB gf gt gB Z rf uf (tkR (p :: rt') ut (lfR (p :: rt') ut)).1 (tkR (p :: rt') ut (lfR (p :: rt') ut)).2 acc) fun y Z ⟨e, h1, h2⟩ => ⟨e, hY.takeT h1 h2⟩
        have HD := hide fun (Y : World) (hY : CmS w gB gf gt gB Y rf uf (tkR (p :: rt') ut (lfR (p :: rt') ut)).1 (tkR (p :: rt') ut (lfR (p :: rt') ut)).2 acc) => hY.put (txR (p :: rt') ut (lfR (p :: rt') ut)) hacc
        have HN := hide fun (Y : World) (hY : CmS w gB gf gt gB Y rf uf (tkR (p :: rt') ut (lfR (p :: rt') ut)).1 (tkR (p :: rt') ut (lfR (p :: rt') ut)).2 (acc ++ (txR (p :: rt') ut (lfR (p :: rt') ut)).map .p)) => hI.putT hk3 ho hY
        have HS := hide hI.s
        clear hI HI hk3 hk2 ho hu hn1 hacc
        generalize lfR (p :: rt') ut = nn at *
        generalize kdR rf = kk at *
        go_wp2_with fail
        refine (unhide HK1).mono ?_
        rintro y X1 ⟨rfl, hX⟩
        subst hX
        dsimp only
        clear HK1
        go_wp2_with fail
        refine (unhide HK2).mono ?_
        rintro y X1' ⟨rfl, hX⟩
        subst hX
        dsimp only
        clear HK2
        go_wp2_with fail
        refine (unhide HL1).mono ?_
        rintro y X2 ⟨rfl, m1, rfl⟩
        dsimp only
        have HS1 := hide ((unhide HS).drewN m1)
        have HT1' := hide (unhide HT1 _ (unhide HS1))
        clear HL1 HT1 HS HS1
        generalize X1'.drewN m1 = Y1 at *
        go_wp2_with fail
        refine (unhide HT1').mono ?_
        rintro y Y2 ⟨rfl, h2⟩
        dsimp only
        have HD' := hide (unhide HD _ h2)
        clear HT1' HD h2
        go_wp2_with fail
        refine (unhide HD').mono ?_
        rintro y Y3 ⟨rfl, h3⟩
        dsimp only
        obtain ⟨k', hk', hI'⟩ := unhide HN _ h3
        have HI3 := hide hI'
        clear HD' HN h3 hI'
        go_wp2_with fail
        go_roundg k'
        case measure => exact hk'
        case rel => exact ⟨⟨_, rfl⟩, hide ⟨_, _, _, _, _, unhide HI3⟩⟩
      · have t2 : (kdR rt == 2) = false := by simpa using hk2
        cases rf with
        | nil =>
          have hrt : rt = [] := by
            cases rt with
            | nil => rfl
            | cons p r =>
              have h1 := fr_pos hI.s.t.k hk2
              have h2 := hI.q
              have h3 : toA (remA [] uf) = 0 := by simp [remA, dA, toA]
              omega
          subst hrt
          have hCe : C = acc := by have := hI.e; simp [remA, dA, cmpA, putsA] at this; exact this.symm
          obtain ⟨ts, hB⟩ := hI.s.b
          have hl := hI.s.l
          have HD := hide (bdelta_at gB gB 0 (fun _ => none) (feedA b0 acc) ts wr hB (bd_ok hB hacc) (by omega))
          have HCA : Hid (canA C = (feedA b0 acc).fin) := hide (by rw [hCe]; rfl)
          rw [← unhide HCA] at HD
          have HBw := hide hI.s.d
          have HZ : Hid (w.heap.size ≤ gB) := hide (by omega)
          clear hI HI hk3 hk2 hCe hB hl hacc HCA
          simp only [kdR] at HK1 HK2 t1 t2
          go_wp2_with fail
          refine (unhide HK1).mono ?_
          rintro y X1 ⟨rfl, hX⟩
          subst hX
          dsimp only
          go_wp2_with fail
          refine (unhide HK2).mono ?_
          rintro y X1' ⟨rfl, hX⟩
          subst hX
          dsimp only
          clear HK2
          go_wp2_with fail
          refine (unhide HK1).mono ?_
          rintro y X2 ⟨rfl, hX⟩
          subst hX
          dsimp only
          clear HK1
          go_wp2_with fail
          refine (unhide HD).mono ?_
          rintro y X3 ⟨v, rfl, ho, x3⟩
          dsimp only
          have HO := hide (own_lower ho (unhide HZ))
          have HX := hide ((unhide HBw).trans (x3.mono (unhide HZ)))
          clear HD ho x3
          go_wp2_with fail
          refine bodyPost_ret (results_tmp rfl _ _ _) rfl ⟨v, rfl, unhide HO, unhide HX⟩
        | cons o rf' =>
          have h0 : ¬ kdR (o :: rf') = 0 := fun h0 => by
            rcases hI.s.f.k.p o (by simp) with ⟨h3 | h3, _⟩ | ⟨h3, _⟩ <;> simp only [kdR] at h0 <;> omega
          have t3 : (kdR (o :: rf') == 0) = false := by simpa using h0
          obtain ⟨p, rt', rfl⟩ : ∃ o rf', rt = o :: rf' := by
            cases rt with
            | nil =>
              have h1 := to_pos hI.s.f.k hk3
              have h2 := hI.q
              have h3 : frA (remA [] ut) = 0 := by simp [remA, dA, frA]
              omega
            | cons o r => exact ⟨o, r, rfl⟩
          have kf : o.k = 1 ∨ o.k = 2 := by rcases hI.s.f.k.p o (by simp) with ⟨h3 | h3, _⟩ | ⟨h3, _⟩ <;> simp only [kdR] at hk3 <;> omega
          have kt : p.k = 1 ∨ p.k = 3 := by rcases hI.s.t.k.p p (by simp) with ⟨h3 | h3, _⟩ | ⟨h3, _⟩ <;> simp only [kdR] at hk2 <;> omega
          have HT := hide (through_at w wr gB gf gt gB o rf' uf p rt' ut acc _ hI.s rfl kf kt hacc)
          have HN := hide fun (Y : World) (hY) => hI.both (Y := Y) rfl kf kt hY
          clear hI HI hk3 hk2 h0 kf kt hacc
          generalize kdR (o :: rf') = kk at *
          generalize kdR (p :: rt') = kp at *
          generalize min (lfR (o :: rf') uf) (lfR (p :: rt') ut) = nn at *
          go_wp2_with fail
          refine (unhide HK1).mono ?_
          rintro y X1 ⟨rfl, hX⟩
          subst hX
          dsimp only
          go_wp2_with fail
          refine (unhide HK2).mono ?_
          rintro y X1' ⟨rfl, hX⟩
          subst hX
          dsimp only
          clear HK2
          go_wp2_with fail
          refine (unhide HK1).mono ?_
          rintro y X2 ⟨rfl, hX⟩
          subst hX
          dsimp only
          clear HK1
          go_wp2_with fail
          refine (unhide HT).mono ?_
          rintro y X3 ⟨rfl, h3⟩
          dsimp only
          obtain ⟨k', hk', hI'⟩ := unhide HN _ h3
          have HI3 := hide hI'
          clear HT HN h3 hI'
          go_wp2_with fail
          go_roundg k'
          case measure => exact hk'
          case rel => exact ⟨⟨_, rfl⟩, hide ⟨_, _, _, _, _, unhide HI3⟩⟩

/-- what Compose answers -/
def cmE (d e : List Dop) : Int := if valB d && valB e then (if toD d = frD e then 0 else 131) else 130
def cmD (d e : List Dop) : List Dop := if cmE d e = 0 then canA (cmpA (dA d) (dA e)) else []
theorem cmE_cases (d e : List Dop) : ((valB d = false ∨ valB e = false) ∧ cmE d e = 130) ∨ (valB d = true ∧ valB e = true ∧ toD d ≠ frD e ∧ cmE d e = 131) ∨ (valB d = true ∧ valB e = true ∧ toD d = frD e ∧ cmE d e = 0) := by
  unfold cmE
  cases h1 : valB d <;> cases h2 : valB e <;> simp
  by_cases h : toD d = frD e <;> simp [h]
theorem val_rdK {d : List Dop} (h : valB d = true) : RdK d 0 := by
  have hp : ∀ o ∈ d, Pln o := fun o ho => by
    rcases valB_op h ho with ⟨h1, h2, h3⟩ | ⟨h1, h2, h3⟩
    · exact .inl ⟨h1, h2, h3⟩
    · exact .inr ⟨h1, h2, h3⟩
  refine ⟨hp, fun o ho => ?_, ?_⟩
  · have h1 := dA_len (valB_k h)
    have h2 := (valB_nn h).2
    have h3 : (opA o).length ≤ (dA d).length := by
      obtain ⟨x, y, rfl⟩ := List.append_of_mem ho
      rw [dA_app, dA_cons, List.length_append, List.length_append]; omega
    unfold szO; omega
  · cases d with
    | nil => exact .inl ⟨rfl, rfl⟩
    | cons o r => exact .inr ⟨o, r, rfl, (szO_i (hp o (by simp))).2⟩
theorem cmp_sizes {d e : List Dop} (h : valB d = true) (h' : valB e = true) (hf : toD d = frD e) : toA (dA d) = frA (dA e) ∧ frA (cmpA (dA d) (dA e)) = frD d ∧ toA (cmpA (dA d) (dA e)) = toD e ∧ (cmpA (dA d) (dA e)).length ≤ 536870912 := by
  have h1 := frA_dA (valB_k h)
  have h2 := frA_dA (valB_k h')
  have h3 := fr_cmp (dA d) (dA e) (by omega)
  have h4 := len_frto (cmpA (dA d) (dA e))
  have h5 := (valB_nn h).2
  have h6 := (valB_nn h').2
  exact ⟨by omega, by omega, by omega, by omega⟩
set_option maxRecDepth 100000 in
set_option maxHeartbeats 1000000 in
theorem Compose_atD (a : Option Addr) (c : Nat) (d : List Dop) (a' : Option Addr) (c' : Nat) (e : List Dop) (w : World) (h : IsO w a d) (h' : IsO w a' e) (hc : d.length ≤ c) (hc' : e.length ≤ c') (hl : d.length ≤ 4611686018427387904) (hl' : e.length ≤ 4611686018427387904) :
    Calls Try.prog 12 #[.slice a d.length c, .slice a' e.length c'] w fun y w' => ∃ v, y = .returned (.tuple #[v, .int .i64 (cmE d e)]) ∧ w'.ownsRow w.heap.size 34 3 v (cmD d e).length (opsV (cmD d e)) ∧ Below w.heap.size w w' := by
  have HL1 := hide (Lens_at a c d w h hl)
  have HL2 := hide fun (X : World) (hx : Below w.heap.size w X) => Lens_at a' c' e X (h'.below hx (Nat.le_refl _)) hl'
  have HC : Hid (∀ X, Below w.heap.size w X → valB d = true → valB e = true → toD d = frD e → Calls Try.prog 34 #[.slice a d.length c, .slice a' e.length c'] X fun y w' => ∃ v, y = .returned v ∧ w'.ownsRow X.heap.size 34 3 v (canA (cmpA (dA d) (dA e))).length (opsV (canA (cmpA (dA d) (dA e)))) ∧ Below X.heap.size X w') := hide fun X hx v1 v2 hf =>
    composed_at a c d a' c' e X (h.below hx (Nat.le_refl _)) (h'.below hx (Nat.le_refl _)) hc hc' (val_rdK v1) (val_rdK v2) (cmp_sizes v1 v2 hf).1 (cmp_sizes v1 v2 hf).2.2.2
  clear h h' hc hc' hl hl'
  unfold cmD
  unfold lensV at HL1 HL2
  rcases cmE_cases d e with ⟨hv, he⟩ | ⟨v1, v2, hf, he⟩ | ⟨v1, v2, hf, he⟩
  · rw [he, if_neg (by decide)]
    clear HC he
    cases h1 : valB d with
    | false =>
      simp only [h1, Bool.false_eq_true, if_false] at HL1
      cases h2 : valB e with
      | false =>
        simp only [h2, Bool.false_eq_true, if_false] at HL2
        clear hv h1 h2
        go_enter Try.func12, Try.ntmps12
        go_wp2_with fail
        refine (unhide HL1).mono ?_
        rintro y w1 ⟨rfl, x1⟩
        dsimp only
        have HX1 := hide x1
        have HL2' := hide (unhide HL2 w1 x1)
        clear HL1 HL2 x1
        go_wp2_with fail
        refine (unhide HL2').mono ?_
        rintro y w2 ⟨rfl, x2⟩
        dsimp only
        have HX2 := hide ((unhide HX1).trans (x2.mono (unhide HX1).size))
        clear HL2' HX1 x2
        go_wp2_with fail
        refine bodyPost_ret (results_tmp2 rfl _ _ _) rfl ⟨.slice none 0 0, rfl, row_nilD _ _, unhide HX2⟩
      | true =>
        simp only [h2, if_true] at HL2
        clear hv h1 h2
        generalize frD e = F at *
        generalize toD e = T at *
        go_enter Try.func12, Try.ntmps12
        go_wp2_with fail
        refine (unhide HL1).mono ?_
        rintro y w1 ⟨rfl, x1⟩
        dsimp only
        have HX1 := hide x1
        have HL2' := hide (unhide HL2 w1 x1)
        clear HL1 HL2 x1
        go_wp2_with fail
        refine (unhide HL2').mono ?_
        rintro y w2 ⟨rfl, x2⟩
        dsimp only
        have HX2 := hide ((unhide HX1).trans (x2.mono (unhide HX1).size))
        clear HL2' HX1 x2
        go_wp2_with fail
        refine bodyPost_ret (results_tmp2 rfl _ _ _) rfl ⟨.slice none 0 0, rfl, row_nilD _ _, unhide HX2⟩
    | true =>
      have h2 : valB e = false := hv.resolve_left (by rw [h1]; decide)
      simp only [h1, if_true] at HL1
      simp only [h2, Bool.false_eq_true, if_false] at HL2
      clear hv h1 h2
      generalize frD d = F at *
      generalize toD d = T at *
      go_enter Try.func12, Try.ntmps12
      go_wp2_with fail
      refine (unhide HL1).mono ?_
      rintro y w1 ⟨rfl, x1⟩
      dsimp only
      have HX1 := hide x1
      have HL2' := hide (unhide HL2 w1 x1)
      clear HL1 HL2 x1
      go_wp2_with fail
      refine (unhide HL2').mono ?_
      rintro y w2 ⟨rfl, x2⟩
      dsimp only
      have HX2 := hide ((unhide HX1).trans (x2.mono (unhide HX1).size))
      clear HL2' HX1 x2
      go_wp2_with fail
      refine bodyPost_ret (results_tmp2 rfl _ _ _) rfl ⟨.slice none 0 0, rfl, row_nilD _ _, unhide HX2⟩
  · rw [he, if_neg (by decide)]
    simp only [v1, if_true] at HL1
    simp only [v2, if_true] at HL2
    have t1 : ((toD d : Int) != (frD e : Int)) = true := by simp; omega
    have t2 : ¬ toD d = frD e := hf
    clear HC he v1 v2 hf
    generalize frD d = F at *
    generalize toD d = T at *
    generalize frD e = F' at *
    generalize toD e = T' at *
    go_enter Try.func12, Try.ntmps12
    go_wp2_with fail
    refine (unhide HL1).mono ?_
    rintro y w1 ⟨rfl, x1⟩
    dsimp only
    have HX1 := hide x1
    have HL2' := hide (unhide HL2 w1 x1)
    clear HL1 HL2 x1
    go_wp2_with fail
    refine (unhide HL2').mono ?_
    rintro y w2 ⟨rfl, x2⟩
    dsimp only
    have HX2 := hide ((unhide HX1).trans (x2.mono (unhide HX1).size))
    clear HL2' HX1 x2
    go_wp2_with fail
    refine bodyPost_ret (results_tmp2 rfl _ _ _) rfl ⟨.slice none 0 0, rfl, row_nilD _ _, unhide HX2⟩
  · rw [he, if_pos rfl]
    have HC1 := hide fun (X : World) (hx : Below w.heap.size w X) => unhide HC X hx v1 v2 hf
    simp only [v1, if_true] at HL1
    simp only [v2, if_true] at HL2
    rw [← hf] at HL2
    clear HC he v1 v2 hf
    generalize canA (cmpA (dA d) (dA e)) = L at *
    generalize frD d = F at *
    generalize toD d = T at *
    generalize toD e = T' at *
    go_enter Try.func12, Try.ntmps12
    go_wp2_with fail
    refine (unhide HL1).mono ?_
    rintro y w1 ⟨rfl, x1⟩
    dsimp only
    have HX1 := hide x1
    have HL2' := hide (unhide HL2 w1 x1)
    clear HL1 HL2 x1
    go_wp2_with fail
    refine (unhide HL2').mono ?_
    rintro y w2 ⟨rfl, x2⟩
    dsimp only
    have HX2 := hide ((unhide HX1).trans (x2.mono (unhide HX1).size))
    have HC2 := hide (unhide HC1 w2 (unhide HX2))
    clear HL2' HX1 x2 HC1
    go_wp2_with fail
    refine (unhide HC2).mono ?_
    rintro y w3 ⟨v, rfl, o3, x3⟩
    dsimp only
    have HX3 := hide ((unhide HX2).trans (x3.mono (unhide HX2).size))
    have HO3 := hide (own_lower o3 (unhide HX2).size)
    clear HC2 HX2 x3 o3
    go_wp2_with fail
    refine bodyPost_ret (results_tmp2 rfl _ _ _) rfl ⟨v, rfl, unhide HO3, unhide HX3⟩

end Go.Proofs.Ytdemagijhmbdcaa
