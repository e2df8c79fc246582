/- Layer 6: the contract of rule's beside: the edges beside a place. -/
import Derived.Test.YteamaneompijkaaGreatDoorSa11
namespace Go.Proofs.YteamaneompijkaaGreatDoor
open Go.ChangeShapes Go.WideShapes Go.ChangeAt Go.RowKit
set_option maxRecDepth 100000
set_option maxHeartbeats 8000000
attribute [local go_sem] Oper.semAt_some
def edC (e : Ed) : Array Value := #[.int .i64 (e.1 : Int), .int .i64 (e.2.1 : Int), .int .i64 (e.2.2 : Int)]
def lastE (pre : List Ed) : Ed := pre.getLast?.getD e0
theorem lastE_snoc (pre : List Ed) (e : Ed) : lastE (pre ++ [e]) = e := by simp [lastE]
def put3 (Y : World) (g : Nat) (x : Ed) : World := ((Y.setCell ⟨g, 0, none⟩ (.int .i64 (x.1 : Int))).setCell ⟨g, 1, none⟩ (.int .i64 (x.2.1 : Int))).setCell ⟨g, 2, none⟩ (.int .i64 (x.2.2 : Int))
theorem put3_same {Y : World} {g : Nat} {t : TypeId} {e : Ed} (x : Ed) (h : Cls Y g t (edC e)) : Cls (put3 Y g x) g t (edC x) := ((h.set 0 _).set 1 _).set 2 _
theorem put3_other {Y : World} {g B : Nat} {t : TypeId} {cs : Array Value} (x : Ed) (h : Cls Y B t cs) (hg : B ≠ g) : Cls (put3 Y g x) B t cs := ((h.other _ _ hg).other _ _ hg).other _ _ hg
theorem put3_below {N g : Nat} (Y : World) (x : Ed) (h : N ≤ g) : Below N Y (put3 Y g x) := ((setCell_below Y _ _ h).trans (setCell_below _ _ _ h)).trans (setCell_below _ _ _ h)
theorem put3_kb {q : Nat → Prop} {N g : Nat} (Y : World) (x : Ed) (h : ¬ q g) (h' : g < N) : KB q N Y (put3 Y g x) := ((KB.setCell Y _ _ h h').trans (KB.setCell _ _ _ h h')).trans (KB.setCell _ _ _ h h')
theorem put3_size (Y : World) (g : Nat) (x : Ed) : (put3 Y g x).heap.size = Y.heap.size := by unfold put3; rw [setCell_size, setCell_size, setCell_size]
theorem drew_below (N : Nat) (Y : World) : Below N Y Y.drew := ⟨rfl, rfl, rfl, Nat.le_refl _, fun _ _ => rfl⟩
structure BsI (w : World) (n : Nat) (r place : Int) (pre : List Ed) (X : World) : Prop where
  hr : Cls X n 25 #[.int .i64 r]
  hp : Cls X (n + 1) 3 #[.int .i64 place]
  dn : Cls X (n + 2) 102 (edC (lastE pre))
  up : Cls X (n + 3) 102 (edC e0)
  ok : Cls X (n + 4) 4 #[.bool false]
  lt : ∀ e ∈ pre, (byE r e : Int) < place
  b : Below n w X
theorem BsI.abd {w : World} {n N : Nat} {r place : Int} (hN : n + 5 ≤ N) : Abd N (BsI w n r place) := fun _ _ _ h hb =>
  ⟨h.hr.below hb (by omega), h.hp.below hb (by omega), h.dn.below hb (by omega), h.up.below hb (by omega), h.ok.below hb (by omega), h.lt, h.b.trans (hb.mono (by omega))⟩
structure BsX (w : World) (n : Nat) (r place : Int) (c : Code) (pre : List Ed) (X : World) : Prop where
  c : c = Code.ret
  i : ∃ pre' u, pre = pre' ++ [u] ∧ (∀ e ∈ pre', (byE r e : Int) < place) ∧ place ≤ (byE r u : Int) ∧
    Cls X (n + 2) 102 (edC (if (byE r u : Int) ≤ place then u else lastE pre')) ∧ Cls X (n + 3) 102 (edC u) ∧ Cls X (n + 4) 4 #[.bool true]
  b : Below n w X
theorem BsX.abd {w : World} {n N : Nat} {r place : Int} {c : Code} (hN : n + 5 ≤ N) : Abd N (BsX w n r place c) := fun _ _ _ h hb => by
  obtain ⟨pre', u, h1, h2, h3, h4, h5, h6⟩ := h.i
  exact ⟨h.c, ⟨pre', u, h1, h2, h3, h4.below hb (by omega), h5.below hb (by omega), h6.below hb (by omega)⟩, h.b.trans (hb.mono (by omega))⟩
theorem res3 {X : World} {a b c : Nat} {t t' : TypeId} {d u : Ed} {k : Bool} (tmps : Array Value) (g6 : tmps[6]?.getD undef = .pointer (some ⟨a, 0, none⟩)) (g7 : tmps[7]?.getD undef = .pointer (some ⟨b, 0, none⟩)) (g8 : tmps[8]?.getD undef = .pointer (some ⟨c, 0, none⟩))
    (h1 : Cls X a t (edC d)) (h2 : Cls X b t (edC u)) (h3 : Cls X c t' #[.bool k]) : (results Tryz.f104 tmps).run Tryz.prog X = .ok (.tuple #[edV d, edV u, .bool k]) X := by
  have p0 : X.cell? ⟨a, 0, none⟩ = some (.int .i64 (d.1 : Int)) := (h1.cell 0).trans rfl
  have p1 : X.cell? ⟨a, 1, none⟩ = some (.int .i64 (d.2.1 : Int)) := (h1.cell 1).trans rfl
  have p2 : X.cell? ⟨a, 2, none⟩ = some (.int .i64 (d.2.2 : Int)) := (h1.cell 2).trans rfl
  have u0 : X.cell? ⟨b, 0, none⟩ = some (.int .i64 (u.1 : Int)) := (h2.cell 0).trans rfl
  have u1 : X.cell? ⟨b, 1, none⟩ = some (.int .i64 (u.2.1 : Int)) := (h2.cell 1).trans rfl
  have u2 : X.cell? ⟨b, 2, none⟩ = some (.int .i64 (u.2.2 : Int)) := (h2.cell 2).trans rfl
  have o0 : X.cell? ⟨c, 0, none⟩ = some (.bool k) := (h3.cell 0).trans rfl
  simp [results, Tryz.results104, go_sem, g6, g7, g8, p0, p1, p2, u0, u1, u2, o0, edV]
theorem beside_in (a0 : Option Addr) (cap : Nat) (l : List Int) (r place : Int) (w : World) (hB : IsB w a0 cap l) (hT : Tab w) (hp0 : 0 ≤ place) :
    Calls Tryz.prog 104 #[.slice a0 l.length cap, .int .i64 r, .int .i64 place] w fun y w' =>
      ((∃ pre u, pre ++ [u] <+: EE l ∧ (∀ e ∈ pre, (byE r e : Int) < place) ∧ place ≤ (byE r u : Int) ∧ y = .returned (.tuple #[edV (if (byE r u : Int) ≤ place then u else lastE pre), edV u, .bool true])) ∨
       ((∀ e ∈ EE l, (byE r e : Int) < place) ∧ y = .returned (.tuple #[edV e0, edV e0, .bool false]))) ∧ Below w.heap.size w w' := by
  refine (callsIn_wide (n := 4)).1 ?_
  refine callsIn_of_wp_marks Tryz.func104 rfl trivial ?_ rfl
  simp only [Tryz.ntmps104, List.size_toArray, List.length_cons, List.length_nil, Nat.reduceAdd, Nat.reduceSub, Array.replicate_succ, Array.replicate_zero, List.push_toArray, List.append_toArray, List.nil_append, List.cons_append]
  refine wpIn_wide.2 ?_
  have i0 : ∃ w2, w2 = ((((w.alloc (.cells #[.int .i64 r] 25)).alloc (.cells #[.int .i64 place] 3)).alloc (.cells #[.int .i64 0, .int .i64 0, .int .i64 0] 102)).alloc (.cells #[.int .i64 0, .int .i64 0, .int .i64 0] 102)).alloc (.cells #[.bool false] 4) ∧ BsI w w.heap.size r place [] w2 ∧ w2.heap.size = w.heap.size + 5 := by
    refine ⟨_, rfl, ⟨?_, ?_, ?_, ?_, ?_, (fun e he => by cases he), ?_⟩, by simp⟩
    · exact ((((Cls.new w _ _).alloc _).alloc _).alloc _).alloc _
    · have := Cls.new (w.alloc (.cells #[.int .i64 r] 25)) 3 #[.int .i64 place]
      rw [World.size_alloc] at this
      exact ((this.alloc _).alloc _).alloc _
    · have := Cls.new ((w.alloc (.cells #[.int .i64 r] 25)).alloc (.cells #[.int .i64 place] 3)) 102 #[.int .i64 0, .int .i64 0, .int .i64 0]
      rw [World.size_alloc, World.size_alloc] at this
      exact (this.alloc _).alloc _
    · have := Cls.new (((w.alloc (.cells #[.int .i64 r] 25)).alloc (.cells #[.int .i64 place] 3)).alloc (.cells #[.int .i64 0, .int .i64 0, .int .i64 0] 102)) 102 #[.int .i64 0, .int .i64 0, .int .i64 0]
      rw [World.size_alloc, World.size_alloc, World.size_alloc] at this
      exact this.alloc _
    · have := Cls.new ((((w.alloc (.cells #[.int .i64 r] 25)).alloc (.cells #[.int .i64 place] 3)).alloc (.cells #[.int .i64 0, .int .i64 0, .int .i64 0] 102)).alloc (.cells #[.int .i64 0, .int .i64 0, .int .i64 0] 102)) 4 #[.bool false]
      rw [World.size_alloc, World.size_alloc, World.size_alloc, World.size_alloc] at this
      exact this
    · exact (((((Below.refl _ w).alloc (Nat.le_refl _) _).alloc (by simp) _).alloc (by simp; omega) _).alloc (by simp; omega) _).alloc (by simp; omega) _
  obtain ⟨w2, hw2, i0, z2⟩ := i0
  have cp : w2.cell? ⟨w.heap.size + 1, 0, none⟩ = some (.int .i64 place) := (i0.hp.cell 0).trans rfl
  rw [hw2] at cp
  have qp : decide (place < 0) = false := by simp; omega
  go_wp2_with fail
  rw [← hw2] at cp ⊢
  refine (edges_at a0 l.length cap w2).mono ?_
  rintro y w3' ⟨rfl, rfl⟩
  have hseq := edges_seq w w2 a0 cap l hB hT i0.b
  have i1 : BsI w w.heap.size r place [] (w2.alloc (.cells #[.slice a0 l.length cap] 30)) := BsI.abd (Nat.le_refl _) _ _ _ i0 ((Below.refl _ w2).alloc (by omega) _)
  have z3 : (w2.alloc (.cells #[.slice a0 l.length cap] 30)).heap.size = w.heap.size + 6 := by simp [z2]
  clear cp i0 hw2
  go_wp2_with fail
  generalize w2.alloc (.cells #[.slice a0 l.length cap] 30) = w3 at *
  generalize w2.heap.size = gB at *
  subst z2
  have hn0 := hT.size
  clear hB hT
  generalize hn : w.heap.size = n at *
  refine (wpIn_wide (n := 4)).1 ?_
  refine range_below (gf := 76) (lb := #[.pointer (some ⟨n + 5, 0, none⟩)]) rfl (enters_of Tryz.func76 (by kernel_rfl) rfl) hseq (Below.refl _ _) (fun k hk => by rcases hk with h | rfl <;> omega) (fun _ => rfl)
    (BsI w n r place) (BsX w n r place) (BsI.abd (by omega)) (fun c => BsX.abd (by omega)) i1 (by decide)
    (fun x a X => ∃ Bx, Cls X Bx 102 (edC x) ∧ n + 6 ≤ Bx ∧ a = { tmps := #[.slice a0 l.length cap, .int .i64 r, .int .i64 place, undef, .pointer (some ⟨n, 0, none⟩), .pointer (some ⟨n + 1, 0, none⟩), .pointer (some ⟨n + 2, 0, none⟩), .pointer (some ⟨n + 3, 0, none⟩), .pointer (some ⟨n + 4, 0, none⟩), .pointer (some ⟨Bx, 0, none⟩), .int .i64 place, .bool false, undef, undef, .slice a0 l.length cap, .func (.func 76) #[] #[.pointer (some ⟨n + 5, 0, none⟩)], .agg #[.int .i64 (x.1 : Int), .int .i64 (x.2.1 : Int), .int .i64 (x.2.2 : Int)], undef, undef, undef, undef, undef, undef, undef, undef, undef, undef, undef, undef, undef, undef, undef], defers := [] }) ?hax ?assign ?body ?done ?stop
  case hax =>
    rintro x a' X k o o' hX ⟨Bx, hc, hlt, rfl⟩
    refine ⟨Bx, hc.same (World.putObj_heap_other ?_), hlt, rfl⟩
    rintro rfl
    rw [show X.heap[Bx]? = _ from hc] at hX
    cases hX
  case assign =>
    rintro k pre x X K hpre hi hsz hK
    unfold edV
    gi_wp2
    exact hK _ _ ((Below.refl _ X).alloc (Nat.le_refl _) _) ⟨X.heap.size, Cls.new X _ _, by omega, rfl⟩
  case body =>
    rintro k pre x a' X hk ⟨rec, hrec⟩ hpre hi ⟨Bx, Xx, hlt, rfl⟩ hsz
    have z3l := Nat.le_of_eq z3.symm
    have z3g := Nat.le_of_eq z3
    clear z3
    have Xr := hi.hr
    have Xp := hi.hp
    have hnq : ∀ m, m < 5 → ¬ (n + m < n ∨ n + m = n + 5) := fun m hm => by omega
    have hnl : ∀ m, m < 5 → n + m < w3.heap.size := fun m hm => by omega
    have hs := hi.b
    by_cases h1 : (byE r x : Int) ≤ place
    · have Q1 : Hid (decide ((byE r x : Int) ≤ place) = true) := hide (by simpa using h1)
      have q1' := hide h1
      clear h1
      gi_wp2_with fail
      have HSa : Hid ((fun w' => (w'.cell? ⟨Bx, 0, none⟩ = some (.int .i64 (x.1 : Int)) ∧ w'.cell? ⟨Bx, 1, none⟩ = some (.int .i64 (x.2.1 : Int)) ∧ w'.cell? ⟨Bx, 2, none⟩ = some (.int .i64 (x.2.2 : Int))) ∧ w'.cell? ⟨n, 0, none⟩ = some (.int .i64 r) ∧ w'.cell? ⟨n + 1, 0, none⟩ = some (.int .i64 place)) X.drew) := hide ⟨⟨(Xx.cell 0).trans rfl, (Xx.cell 1).trans rfl, (Xx.cell 2).trans rfl⟩, (Xr.cell 0).trans rfl, (Xp.cell 0).trans rfl⟩
      refine regionL_in (S := fun w' => (w'.cell? ⟨Bx, 0, none⟩ = some (.int .i64 (x.1 : Int)) ∧ w'.cell? ⟨Bx, 1, none⟩ = some (.int .i64 (x.2.1 : Int)) ∧ w'.cell? ⟨Bx, 2, none⟩ = some (.int .i64 (x.2.2 : Int))) ∧ w'.cell? ⟨n, 0, none⟩ = some (.int .i64 r) ∧ w'.cell? ⟨n + 1, 0, none⟩ = some (.int .i64 place)) (fun _ => false) (by kernel_rfl) ?hd ?hq ?_
      case hd =>
        intro j o c h e
        have := Array.mem_of_getElem? h
        simp only [List.mem_toArray, List.mem_cons, List.not_mem_nil, or_false] at this
        rcases this with rfl | rfl | rfl | rfl | rfl <;> cases e
      case hq => rintro ⟨a, w, h⟩; exact h
      refine anyL_take (i := 0) (v := ?van0x0) rfl (by kernel_rfl) (by kernel_rfl) (by kernel_rfl) (by kernel_rfl) (fun _ _ _ h => h) (Or.inl ⟨by rfl, ?han0x0⟩) (unhide HSa) ?_
      case han0x0 => (intro w hSw; (try dsimp only at hSw); go_simp) <;> with_reducible rfl
      simp only [Act.put, List.getElem_toArray, List.getElem_cons_zero, List.setIfInBounds_toArray, List.set_cons_zero, List.set_cons_succ]
      refine anyL_take (i := 1) (v := ?van1x1) rfl (by kernel_rfl) (by kernel_rfl) (by kernel_rfl) (by kernel_rfl) (fun _ _ _ h => h) (Or.inl ⟨by rfl, ?han1x1⟩) (unhide HSa) ?_
      case han1x1 => (intro w hSw; (try dsimp only at hSw); go_simp) <;> with_reducible rfl
      simp only [Act.put, List.getElem_toArray, List.getElem_cons_zero, List.getElem_cons_succ, List.setIfInBounds_toArray, List.set_cons_zero, List.set_cons_succ]
      refine anyL_take (i := 3) (v := ?van2x3) rfl (by kernel_rfl) (by kernel_rfl) (by kernel_rfl) (by kernel_rfl) (fun _ _ _ h => h) (Or.inl ⟨by rfl, ?han2x3⟩) (unhide HSa) ?_
      case han2x3 => (intro w hSw; (try dsimp only at hSw); go_simp) <;> with_reducible rfl
      simp only [Act.put, List.getElem_toArray, List.getElem_cons_zero, List.getElem_cons_succ, List.setIfInBounds_toArray, List.set_cons_zero, List.set_cons_succ]
      refine anyL_ready (rs := [2]) (by kernel_rfl) (by simp) ?_
      refine AllL.cons rfl (fun K hK => ?_) AllL.nil
      go_simp
      refine (by_at x r X.drew).mono ?_
      rintro y Y ⟨rfl, hY⟩
      have hY : Below X.heap.size X Y := (show Below X.heap.size X X.drew from ⟨rfl, rfl, rfl, Nat.le_refl _, fun _ _ => rfl⟩).trans hY
      have sY := hY.size
      have Yx := Xx.below hY Xx.lt
      have Yr := Xr.below hY Xr.lt
      have Yp := Xp.below hY Xp.lt
      refine unhide hK _ _ (fun _ => ⟨⟨(Yx.cell 0).trans rfl, (Yx.cell 1).trans rfl, (Yx.cell 2).trans rfl⟩, (Yr.cell 0).trans rfl, (Yp.cell 0).trans rfl⟩) ?_
      clear hK K HSa
      have HSab : Hid ((fun w' => (w'.cell? ⟨Bx, 0, none⟩ = some (.int .i64 (x.1 : Int)) ∧ w'.cell? ⟨Bx, 1, none⟩ = some (.int .i64 (x.2.1 : Int)) ∧ w'.cell? ⟨Bx, 2, none⟩ = some (.int .i64 (x.2.2 : Int))) ∧ w'.cell? ⟨n, 0, none⟩ = some (.int .i64 r) ∧ w'.cell? ⟨n + 1, 0, none⟩ = some (.int .i64 place)) Y) := hide ⟨⟨(Yx.cell 0).trans rfl, (Yx.cell 1).trans rfl, (Yx.cell 2).trans rfl⟩, (Yr.cell 0).trans rfl, (Yp.cell 0).trans rfl⟩
      refine anyL_take (i := 4) (v := .bool (decide ((byE r x : Int) ≤ place))) rfl (by kernel_rfl) (by kernel_rfl) (by kernel_rfl) (by kernel_rfl) (fun _ _ _ h => h) (Or.inl ⟨by rfl, ?hac⟩) (unhide HSab) ?_
      case hac => intro w hSw; (try dsimp only at hSw); go_simp
      simp only [Act.put, List.getElem_toArray, List.getElem_cons_zero, List.getElem_cons_succ, List.setIfInBounds_toArray, List.set_cons_zero, List.set_cons_succ]
      rw [unhide Q1]
      refine anyL_done (by kernel_rfl) ?_ _
      clear HSab
      have Yd := hi.dn.below hY hi.dn.lt
      generalize hdl : lastE pre = dl at *
      have x0 : Y.cell? ⟨Bx, 0, none⟩ = some (.int .i64 (x.1 : Int)) := (Yx.cell 0).trans rfl
      have x1 : Y.cell? ⟨Bx, 1, none⟩ = some (.int .i64 (x.2.1 : Int)) := (Yx.cell 1).trans rfl
      have x2 : Y.cell? ⟨Bx, 2, none⟩ = some (.int .i64 (x.2.2 : Int)) := (Yx.cell 2).trans rfl
      have d0 : Y.cell? ⟨n + 2, 0, none⟩ = some (.int .i64 (dl.1 : Int)) := (Yd.cell 0).trans rfl
      have fd0 := Yd.frozen 0
      have d1 : Y.cell? ⟨n + 2, 1, none⟩ = some (.int .i64 (dl.2.1 : Int)) := (Yd.cell 1).trans rfl
      have fd1 := Yd.frozen 1
      have d2 : Y.cell? ⟨n + 2, 2, none⟩ = some (.int .i64 (dl.2.2 : Int)) := (Yd.cell 2).trans rfl
      have fd2 := Yd.frozen 2
      gi_wp2_with fail
      have Zd := put3_same x Yd
      have Zx := put3_other (g := n + 2) x Yx (by omega)
      have Zr := put3_other (g := n + 2) x Yr (by omega)
      have Zp := put3_other (g := n + 2) x Yp (by omega)
      have Zu := put3_other (g := n + 2) x (hi.up.below hY hi.up.lt) (by omega)
      have Zo := put3_other (g := n + 2) x (hi.ok.below hY hi.ok.lt) (by omega)
      have Zb := put3_below (N := n) (g := n + 2) Y x (by omega)
      have Zk := put3_kb (q := fun k => k < n ∨ k = n + 5) (N := w3.heap.size) Y x (hnq 2 (by decide)) (hnl 2 (by decide))
      have Zs := put3_size Y (n + 2) x
      clear x0 x1 x2 d0 d1 d2 fd0 fd1 fd2
      unfold put3 at Zd Zx Zr Zp Zu Zo Zb Zk Zs
      generalize ((Y.setCell ⟨n + 2, 0, none⟩ (.int .i64 (x.1 : Int))).setCell ⟨n + 2, 1, none⟩ (.int .i64 (x.2.1 : Int))).setCell ⟨n + 2, 2, none⟩ (.int .i64 (x.2.2 : Int)) = Z at *
      have Zk2 := (KB.all (q := fun k => k < n ∨ k = n + 5) (N := w3.heap.size) hY).trans Zk
      have ZB := (hs.trans (hY.mono (by omega))).trans Zb
      have Zk := Zk2
      by_cases h2 : place ≤ (byE r x : Int)
      · have Q2 : Hid (decide (place ≤ (byE r x : Int)) = true) := hide (by simpa using h2)
        have q2' := hide h2
        clear h2
        have HSb : Hid ((fun w' => (w'.cell? ⟨Bx, 0, none⟩ = some (.int .i64 (x.1 : Int)) ∧ w'.cell? ⟨Bx, 1, none⟩ = some (.int .i64 (x.2.1 : Int)) ∧ w'.cell? ⟨Bx, 2, none⟩ = some (.int .i64 (x.2.2 : Int))) ∧ w'.cell? ⟨n, 0, none⟩ = some (.int .i64 r) ∧ w'.cell? ⟨n + 1, 0, none⟩ = some (.int .i64 place)) Z.drew) := hide ⟨⟨(Zx.cell 0).trans rfl, (Zx.cell 1).trans rfl, (Zx.cell 2).trans rfl⟩, (Zr.cell 0).trans rfl, (Zp.cell 0).trans rfl⟩
        refine regionL_in (S := fun w' => (w'.cell? ⟨Bx, 0, none⟩ = some (.int .i64 (x.1 : Int)) ∧ w'.cell? ⟨Bx, 1, none⟩ = some (.int .i64 (x.2.1 : Int)) ∧ w'.cell? ⟨Bx, 2, none⟩ = some (.int .i64 (x.2.2 : Int))) ∧ w'.cell? ⟨n, 0, none⟩ = some (.int .i64 r) ∧ w'.cell? ⟨n + 1, 0, none⟩ = some (.int .i64 place)) (fun _ => false) (by kernel_rfl) ?hd ?hq ?_
        case hd =>
          intro j o c h e
          have := Array.mem_of_getElem? h
          simp only [List.mem_toArray, List.mem_cons, List.not_mem_nil, or_false] at this
          rcases this with rfl | rfl | rfl | rfl | rfl <;> cases e
        case hq => rintro ⟨a, w, h⟩; exact h
        refine anyL_take (i := 0) (v := ?vbn3x0) rfl (by kernel_rfl) (by kernel_rfl) (by kernel_rfl) (by kernel_rfl) (fun _ _ _ h => h) (Or.inl ⟨by rfl, ?hbn3x0⟩) (unhide HSb) ?_
        case hbn3x0 => (intro w hSw; (try dsimp only at hSw); go_simp) <;> with_reducible rfl
        simp only [Act.put, List.getElem_toArray, List.getElem_cons_zero, List.setIfInBounds_toArray, List.set_cons_zero, List.set_cons_succ]
        refine anyL_take (i := 1) (v := ?vbn4x1) rfl (by kernel_rfl) (by kernel_rfl) (by kernel_rfl) (by kernel_rfl) (fun _ _ _ h => h) (Or.inl ⟨by rfl, ?hbn4x1⟩) (unhide HSb) ?_
        case hbn4x1 => (intro w hSw; (try dsimp only at hSw); go_simp) <;> with_reducible rfl
        simp only [Act.put, List.getElem_toArray, List.getElem_cons_zero, List.getElem_cons_succ, List.setIfInBounds_toArray, List.set_cons_zero, List.set_cons_succ]
        refine anyL_take (i := 3) (v := ?vbn5x3) rfl (by kernel_rfl) (by kernel_rfl) (by kernel_rfl) (by kernel_rfl) (fun _ _ _ h => h) (Or.inl ⟨by rfl, ?hbn5x3⟩) (unhide HSb) ?_
        case hbn5x3 => (intro w hSw; (try dsimp only at hSw); go_simp) <;> with_reducible rfl
        simp only [Act.put, List.getElem_toArray, List.getElem_cons_zero, List.getElem_cons_succ, List.setIfInBounds_toArray, List.set_cons_zero, List.set_cons_succ]
        refine anyL_ready (rs := [2]) (by kernel_rfl) (by simp) ?_
        refine AllL.cons rfl (fun K hK => ?_) AllL.nil
        go_simp
        refine (by_at x r Z.drew).mono ?_
        rintro y A ⟨rfl, hA⟩
        have hA : Below Z.heap.size Z A := (show Below Z.heap.size Z Z.drew from ⟨rfl, rfl, rfl, Nat.le_refl _, fun _ _ => rfl⟩).trans hA
        have sA := hA.size
        have Ax := Zx.below hA Zx.lt
        have Ar := Zr.below hA Zr.lt
        have Ap := Zp.below hA Zp.lt
        refine unhide hK _ _ (fun _ => ⟨⟨(Ax.cell 0).trans rfl, (Ax.cell 1).trans rfl, (Ax.cell 2).trans rfl⟩, (Ar.cell 0).trans rfl, (Ap.cell 0).trans rfl⟩) ?_
        clear hK K HSb
        have HSbb : Hid ((fun w' => (w'.cell? ⟨Bx, 0, none⟩ = some (.int .i64 (x.1 : Int)) ∧ w'.cell? ⟨Bx, 1, none⟩ = some (.int .i64 (x.2.1 : Int)) ∧ w'.cell? ⟨Bx, 2, none⟩ = some (.int .i64 (x.2.2 : Int))) ∧ w'.cell? ⟨n, 0, none⟩ = some (.int .i64 r) ∧ w'.cell? ⟨n + 1, 0, none⟩ = some (.int .i64 place)) A) := hide ⟨⟨(Ax.cell 0).trans rfl, (Ax.cell 1).trans rfl, (Ax.cell 2).trans rfl⟩, (Ar.cell 0).trans rfl, (Ap.cell 0).trans rfl⟩
        refine anyL_take (i := 4) (v := .bool (decide (place ≤ (byE r x : Int)))) rfl (by kernel_rfl) (by kernel_rfl) (by kernel_rfl) (by kernel_rfl) (fun _ _ _ h => h) (Or.inl ⟨by rfl, ?hbc⟩) (unhide HSbb) ?_
        case hbc => intro w hSw; (try dsimp only at hSw); go_simp
        simp only [Act.put, List.getElem_toArray, List.getElem_cons_zero, List.getElem_cons_succ, List.setIfInBounds_toArray, List.set_cons_zero, List.set_cons_succ]
        rw [unhide Q2]
        refine anyL_done (by kernel_rfl) ?_ _
        clear HSbb
        have Ad := Zd.below hA Zd.lt
        have Au := Zu.below hA Zu.lt
        have Ao := Zo.below hA Zo.lt
        have Ak := Zk.trans (KB.all hA)
        have AB := ZB.trans (hA.mono (by omega))
        gi_wp2_with fail
        have HSr : Hid ((fun w' => (w'.cell? ⟨n + 2, 0, none⟩ = some (.int .i64 (x.1 : Int)) ∧ w'.cell? ⟨n + 2, 1, none⟩ = some (.int .i64 (x.2.1 : Int)) ∧ w'.cell? ⟨n + 2, 2, none⟩ = some (.int .i64 (x.2.2 : Int))) ∧ w'.cell? ⟨Bx, 0, none⟩ = some (.int .i64 (x.1 : Int)) ∧ w'.cell? ⟨Bx, 1, none⟩ = some (.int .i64 (x.2.1 : Int)) ∧ w'.cell? ⟨Bx, 2, none⟩ = some (.int .i64 (x.2.2 : Int))) A.drew) := hide ⟨⟨(Ad.cell 0).trans rfl, (Ad.cell 1).trans rfl, (Ad.cell 2).trans rfl⟩, (Ax.cell 0).trans rfl, (Ax.cell 1).trans rfl, (Ax.cell 2).trans rfl⟩
        refine regionL_in (S := fun w' => (w'.cell? ⟨n + 2, 0, none⟩ = some (.int .i64 (x.1 : Int)) ∧ w'.cell? ⟨n + 2, 1, none⟩ = some (.int .i64 (x.2.1 : Int)) ∧ w'.cell? ⟨n + 2, 2, none⟩ = some (.int .i64 (x.2.2 : Int))) ∧ w'.cell? ⟨Bx, 0, none⟩ = some (.int .i64 (x.1 : Int)) ∧ w'.cell? ⟨Bx, 1, none⟩ = some (.int .i64 (x.2.1 : Int)) ∧ w'.cell? ⟨Bx, 2, none⟩ = some (.int .i64 (x.2.2 : Int))) (fun i => i == 3 || i == 4) (by kernel_rfl) ?hd ?hq ?_
        case hd =>
          intro j o c h e
          have := Array.mem_of_getElem? h
          simp only [List.mem_toArray, List.mem_cons, List.not_mem_nil, or_false] at this
          rcases this with rfl | rfl | rfl | rfl | rfl <;> cases e
        case hq => rintro ⟨a, w, h⟩; exact h
        have Ud : Cls A.drew _ _ _ := Ad
        have Ux : Cls A.drew _ _ _ := Ax
        have Uu : Cls A.drew _ _ _ := Au
        have Uo : Cls A.drew _ _ _ := Ao
        have Uk : KB (fun k => k < n ∨ k = n + 5) w3.heap.size X A.drew := Ak
        have Ub : Below n w A.drew := AB.trans (drew_below n A)
        generalize A.drew = U at *
        refine anyL_take (i := 0) (v := ?vrn6x0) rfl (by kernel_rfl) (by kernel_rfl) (by kernel_rfl) (by kernel_rfl) (fun _ _ _ h => h) (Or.inl ⟨by rfl, ?hrn6x0⟩) (unhide HSr) ?_
        case hrn6x0 => (intro w hSw; (try dsimp only at hSw); go_simp) <;> with_reducible rfl
        simp only [Act.put, List.getElem_toArray, List.getElem_cons_zero, List.setIfInBounds_toArray, List.set_cons_zero, List.set_cons_succ]
        refine anyL_take (i := 1) (v := ?vrn7x1) rfl (by kernel_rfl) (by kernel_rfl) (by kernel_rfl) (by kernel_rfl) (fun _ _ _ h => h) (Or.inl ⟨by rfl, ?hrn7x1⟩) (unhide HSr) ?_
        case hrn7x1 => (intro w hSw; (try dsimp only at hSw); go_simp) <;> with_reducible rfl
        simp only [Act.put, List.getElem_toArray, List.getElem_cons_zero, List.getElem_cons_succ, List.setIfInBounds_toArray, List.set_cons_zero, List.set_cons_succ]
        have d0 : U.cell? ⟨n + 2, 0, none⟩ = some (.int .i64 (x.1 : Int)) := (Ud.cell 0).trans rfl
        have fd0 := Ud.frozen 0
        have d1 : U.cell? ⟨n + 2, 1, none⟩ = some (.int .i64 (x.2.1 : Int)) := (Ud.cell 1).trans rfl
        have fd1 := Ud.frozen 1
        have d2 : U.cell? ⟨n + 2, 2, none⟩ = some (.int .i64 (x.2.2 : Int)) := (Ud.cell 2).trans rfl
        have fd2 := Ud.frozen 2
        refine anyL_ready (rs := [2]) (by kernel_rfl) (by simp) ?_
        refine AllL.cons rfl (fun K hK => ?_) AllL.nil
        go_simp
        clear d0 d1 d2 fd0 fd1 fd2
        have Vd := put3_same x Ud
        have Vx := put3_other (g := n + 2) x Ux (by omega)
        have Vu := put3_other (g := n + 2) x Uu (by omega)
        have Vo := put3_other (g := n + 2) x Uo (by omega)
        have Vb := Ub.trans (put3_below (N := n) (g := n + 2) U x (by omega))
        have Vk := Uk.trans (put3_kb (q := fun k => k < n ∨ k = n + 5) (N := w3.heap.size) U x (hnq 2 (by decide)) (hnl 2 (by decide)))
        unfold put3 at Vd Vx Vu Vo Vb Vk
        generalize ((U.setCell ⟨n + 2, 0, none⟩ (.int .i64 (x.1 : Int))).setCell ⟨n + 2, 1, none⟩ (.int .i64 (x.2.1 : Int))).setCell ⟨n + 2, 2, none⟩ (.int .i64 (x.2.2 : Int)) = V at *
        refine unhide hK _ _ (fun _ => ⟨⟨(Vd.cell 0).trans rfl, (Vd.cell 1).trans rfl, (Vd.cell 2).trans rfl⟩, (Vx.cell 0).trans rfl, (Vx.cell 1).trans rfl, (Vx.cell 2).trans rfl⟩) ?_
        clear hK K
        have u0 : V.cell? ⟨n + 3, 0, none⟩ = some (.int .i64 (e0.1 : Int)) := (Vu.cell 0).trans rfl
        have fu0 := Vu.frozen 0
        have u1 : V.cell? ⟨n + 3, 1, none⟩ = some (.int .i64 (e0.2.1 : Int)) := (Vu.cell 1).trans rfl
        have fu1 := Vu.frozen 1
        have u2 : V.cell? ⟨n + 3, 2, none⟩ = some (.int .i64 (e0.2.2 : Int)) := (Vu.cell 2).trans rfl
        have fu2 := Vu.frozen 2
        refine anyL_ready (rs := [3]) (by kernel_rfl) (by simp) ?_
        refine AllL.cons rfl (fun K hK => ?_) AllL.nil
        go_simp
        clear u0 u1 u2 fu0 fu1 fu2
        have Td := put3_other (g := n + 3) x Vd (by omega)
        have Tu := put3_same x Vu
        have To := put3_other (g := n + 3) x Vo (by omega)
        have Tb := Vb.trans (put3_below (N := n) (g := n + 3) V x (by omega))
        have Tk := Vk.trans (put3_kb (q := fun k => k < n ∨ k = n + 5) (N := w3.heap.size) V x (hnq 3 (by decide)) (hnl 3 (by decide)))
        unfold put3 at Td Tu To Tb Tk
        generalize ((V.setCell ⟨n + 3, 0, none⟩ (.int .i64 (x.1 : Int))).setCell ⟨n + 3, 1, none⟩ (.int .i64 (x.2.1 : Int))).setCell ⟨n + 3, 2, none⟩ (.int .i64 (x.2.2 : Int)) = T at *
        refine unhide hK _ _ (fun h => absurd h (by decide)) ?_
        clear hK K
        have o0 : T.cell? ⟨n + 4, 0, none⟩ = some (.bool false) := (To.cell 0).trans rfl
        have fo := To.frozen 0
        refine anyL_ready (rs := [4]) (by kernel_rfl) (by simp) ?_
        refine AllL.cons rfl (fun K hK => ?_) AllL.nil
        go_simp
        refine unhide hK _ _ (fun h => absurd h (by decide)) ?_
        clear hK K o0 fo
        refine anyL_done (by kernel_rfl) ?_ _
        have Go := To.set 0 (.bool true)
        have Gd := Td.other ⟨n + 4, 0, none⟩ (.bool true) (show n + 2 ≠ n + 4 by omega)
        have Gu := Tu.other ⟨n + 4, 0, none⟩ (.bool true) (show n + 3 ≠ n + 4 by omega)
        have Gb := Tb.trans (setCell_below (N := n) T ⟨n + 4, 0, none⟩ (.bool true) (show n ≤ n + 4 by omega))
        have Gk := Tk.trans (KB.setCell (q := fun k => k < n ∨ k = n + 5) (N := w3.heap.size) T ⟨n + 4, 0, none⟩ (.bool true) (hnq 4 (by decide)) (hnl 4 (by decide)))
        gi_wp2
        refine ⟨Gk, rfl, ⟨pre, x, rfl, hi.lt, unhide q2', ?_, Gu, Go⟩, Gb⟩
        rw [if_pos (unhide q1')]
        exact Gd
      · have Q2 : Hid (decide (place ≤ (byE r x : Int)) = false) := hide (by simpa using h2)
        have q2' := hide h2
        clear h2
        have HSb : Hid ((fun w' => (w'.cell? ⟨Bx, 0, none⟩ = some (.int .i64 (x.1 : Int)) ∧ w'.cell? ⟨Bx, 1, none⟩ = some (.int .i64 (x.2.1 : Int)) ∧ w'.cell? ⟨Bx, 2, none⟩ = some (.int .i64 (x.2.2 : Int))) ∧ w'.cell? ⟨n, 0, none⟩ = some (.int .i64 r) ∧ w'.cell? ⟨n + 1, 0, none⟩ = some (.int .i64 place)) Z.drew) := hide ⟨⟨(Zx.cell 0).trans rfl, (Zx.cell 1).trans rfl, (Zx.cell 2).trans rfl⟩, (Zr.cell 0).trans rfl, (Zp.cell 0).trans rfl⟩
        refine regionL_in (S := fun w' => (w'.cell? ⟨Bx, 0, none⟩ = some (.int .i64 (x.1 : Int)) ∧ w'.cell? ⟨Bx, 1, none⟩ = some (.int .i64 (x.2.1 : Int)) ∧ w'.cell? ⟨Bx, 2, none⟩ = some (.int .i64 (x.2.2 : Int))) ∧ w'.cell? ⟨n, 0, none⟩ = some (.int .i64 r) ∧ w'.cell? ⟨n + 1, 0, none⟩ = some (.int .i64 place)) (fun _ => false) (by kernel_rfl) ?hd ?hq ?_
        case hd =>
          intro j o c h e
          have := Array.mem_of_getElem? h
          simp only [List.mem_toArray, List.mem_cons, List.not_mem_nil, or_false] at this
          rcases this with rfl | rfl | rfl | rfl | rfl <;> cases e
        case hq => rintro ⟨a, w, h⟩; exact h
        refine anyL_take (i := 0) (v := ?vbn8x0) rfl (by kernel_rfl) (by kernel_rfl) (by kernel_rfl) (by kernel_rfl) (fun _ _ _ h => h) (Or.inl ⟨by rfl, ?hbn8x0⟩) (unhide HSb) ?_
        case hbn8x0 => (intro w hSw; (try dsimp only at hSw); go_simp) <;> with_reducible rfl
        simp only [Act.put, List.getElem_toArray, List.getElem_cons_zero, List.setIfInBounds_toArray, List.set_cons_zero, List.set_cons_succ]
        refine anyL_take (i := 1) (v := ?vbn9x1) rfl (by kernel_rfl) (by kernel_rfl) (by kernel_rfl) (by kernel_rfl) (fun _ _ _ h => h) (Or.inl ⟨by rfl, ?hbn9x1⟩) (unhide HSb) ?_
        case hbn9x1 => (intro w hSw; (try dsimp only at hSw); go_simp) <;> with_reducible rfl
        simp only [Act.put, List.getElem_toArray, List.getElem_cons_zero, List.getElem_cons_succ, List.setIfInBounds_toArray, List.set_cons_zero, List.set_cons_succ]
        refine anyL_take (i := 3) (v := ?vbn10x3) rfl (by kernel_rfl) (by kernel_rfl) (by kernel_rfl) (by kernel_rfl) (fun _ _ _ h => h) (Or.inl ⟨by rfl, ?hbn10x3⟩) (unhide HSb) ?_
        case hbn10x3 => (intro w hSw; (try dsimp only at hSw); go_simp) <;> with_reducible rfl
        simp only [Act.put, List.getElem_toArray, List.getElem_cons_zero, List.getElem_cons_succ, List.setIfInBounds_toArray, List.set_cons_zero, List.set_cons_succ]
        refine anyL_ready (rs := [2]) (by kernel_rfl) (by simp) ?_
        refine AllL.cons rfl (fun K hK => ?_) AllL.nil
        go_simp
        refine (by_at x r Z.drew).mono ?_
        rintro y A ⟨rfl, hA⟩
        have hA : Below Z.heap.size Z A := (show Below Z.heap.size Z Z.drew from ⟨rfl, rfl, rfl, Nat.le_refl _, fun _ _ => rfl⟩).trans hA
        have sA := hA.size
        have Ax := Zx.below hA Zx.lt
        have Ar := Zr.below hA Zr.lt
        have Ap := Zp.below hA Zp.lt
        refine unhide hK _ _ (fun _ => ⟨⟨(Ax.cell 0).trans rfl, (Ax.cell 1).trans rfl, (Ax.cell 2).trans rfl⟩, (Ar.cell 0).trans rfl, (Ap.cell 0).trans rfl⟩) ?_
        clear hK K HSb
        have HSbb : Hid ((fun w' => (w'.cell? ⟨Bx, 0, none⟩ = some (.int .i64 (x.1 : Int)) ∧ w'.cell? ⟨Bx, 1, none⟩ = some (.int .i64 (x.2.1 : Int)) ∧ w'.cell? ⟨Bx, 2, none⟩ = some (.int .i64 (x.2.2 : Int))) ∧ w'.cell? ⟨n, 0, none⟩ = some (.int .i64 r) ∧ w'.cell? ⟨n + 1, 0, none⟩ = some (.int .i64 place)) A) := hide ⟨⟨(Ax.cell 0).trans rfl, (Ax.cell 1).trans rfl, (Ax.cell 2).trans rfl⟩, (Ar.cell 0).trans rfl, (Ap.cell 0).trans rfl⟩
        refine anyL_take (i := 4) (v := .bool (decide (place ≤ (byE r x : Int)))) rfl (by kernel_rfl) (by kernel_rfl) (by kernel_rfl) (by kernel_rfl) (fun _ _ _ h => h) (Or.inl ⟨by rfl, ?hbc⟩) (unhide HSbb) ?_
        case hbc => intro w hSw; (try dsimp only at hSw); go_simp
        simp only [Act.put, List.getElem_toArray, List.getElem_cons_zero, List.getElem_cons_succ, List.setIfInBounds_toArray, List.set_cons_zero, List.set_cons_succ]
        rw [unhide Q2]
        refine anyL_done (by kernel_rfl) ?_ _
        clear HSbb
        gi_wp2
        have hi2 : BsI w n r place (pre ++ [x]) A := ⟨Ar, Ap, by rw [lastE_snoc]; exact Zd.below hA Zd.lt, Zu.below hA Zu.lt, Zo.below hA Zo.lt, fun e he => by
          rcases List.mem_append.1 he with h | h
          · exact hi.lt e h
          · rw [List.mem_singleton.1 h]; have := unhide q2'; omega, ZB.trans (hA.mono (by omega))⟩
        exact ⟨Zk.trans (KB.all hA), hi2⟩
    · have Q1 : Hid (decide ((byE r x : Int) ≤ place) = false) := hide (by simpa using h1)
      have q1' := hide h1
      have Q2 : Hid (decide (place ≤ (byE r x : Int)) = true) := hide (by simp; omega)
      have q2' : Hid (place ≤ (byE r x : Int)) := hide (by omega)
      clear h1
      gi_wp2_with fail
      have HSa : Hid ((fun w' => (w'.cell? ⟨Bx, 0, none⟩ = some (.int .i64 (x.1 : Int)) ∧ w'.cell? ⟨Bx, 1, none⟩ = some (.int .i64 (x.2.1 : Int)) ∧ w'.cell? ⟨Bx, 2, none⟩ = some (.int .i64 (x.2.2 : Int))) ∧ w'.cell? ⟨n, 0, none⟩ = some (.int .i64 r) ∧ w'.cell? ⟨n + 1, 0, none⟩ = some (.int .i64 place)) X.drew) := hide ⟨⟨(Xx.cell 0).trans rfl, (Xx.cell 1).trans rfl, (Xx.cell 2).trans rfl⟩, (Xr.cell 0).trans rfl, (Xp.cell 0).trans rfl⟩
      refine regionL_in (S := fun w' => (w'.cell? ⟨Bx, 0, none⟩ = some (.int .i64 (x.1 : Int)) ∧ w'.cell? ⟨Bx, 1, none⟩ = some (.int .i64 (x.2.1 : Int)) ∧ w'.cell? ⟨Bx, 2, none⟩ = some (.int .i64 (x.2.2 : Int))) ∧ w'.cell? ⟨n, 0, none⟩ = some (.int .i64 r) ∧ w'.cell? ⟨n + 1, 0, none⟩ = some (.int .i64 place)) (fun _ => false) (by kernel_rfl) ?hd ?hq ?_
      case hd =>
        intro j o c h e
        have := Array.mem_of_getElem? h
        simp only [List.mem_toArray, List.mem_cons, List.not_mem_nil, or_false] at this
        rcases this with rfl | rfl | rfl | rfl | rfl <;> cases e
      case hq => rintro ⟨a, w, h⟩; exact h
      refine anyL_take (i := 0) (v := ?van11x0) rfl (by kernel_rfl) (by kernel_rfl) (by kernel_rfl) (by kernel_rfl) (fun _ _ _ h => h) (Or.inl ⟨by rfl, ?han11x0⟩) (unhide HSa) ?_
      case han11x0 => (intro w hSw; (try dsimp only at hSw); go_simp) <;> with_reducible rfl
      simp only [Act.put, List.getElem_toArray, List.getElem_cons_zero, List.setIfInBounds_toArray, List.set_cons_zero, List.set_cons_succ]
      refine anyL_take (i := 1) (v := ?van12x1) rfl (by kernel_rfl) (by kernel_rfl) (by kernel_rfl) (by kernel_rfl) (fun _ _ _ h => h) (Or.inl ⟨by rfl, ?han12x1⟩) (unhide HSa) ?_
      case han12x1 => (intro w hSw; (try dsimp only at hSw); go_simp) <;> with_reducible rfl
      simp only [Act.put, List.getElem_toArray, List.getElem_cons_zero, List.getElem_cons_succ, List.setIfInBounds_toArray, List.set_cons_zero, List.set_cons_succ]
      refine anyL_take (i := 3) (v := ?van13x3) rfl (by kernel_rfl) (by kernel_rfl) (by kernel_rfl) (by kernel_rfl) (fun _ _ _ h => h) (Or.inl ⟨by rfl, ?han13x3⟩) (unhide HSa) ?_
      case han13x3 => (intro w hSw; (try dsimp only at hSw); go_simp) <;> with_reducible rfl
      simp only [Act.put, List.getElem_toArray, List.getElem_cons_zero, List.getElem_cons_succ, List.setIfInBounds_toArray, List.set_cons_zero, List.set_cons_succ]
      refine anyL_ready (rs := [2]) (by kernel_rfl) (by simp) ?_
      refine AllL.cons rfl (fun K hK => ?_) AllL.nil
      go_simp
      refine (by_at x r X.drew).mono ?_
      rintro y Z ⟨rfl, hZ⟩
      have hZ : Below X.heap.size X Z := (show Below X.heap.size X X.drew from ⟨rfl, rfl, rfl, Nat.le_refl _, fun _ _ => rfl⟩).trans hZ
      have sZ := hZ.size
      have Zx := Xx.below hZ Xx.lt
      have Zr := Xr.below hZ Xr.lt
      have Zp := Xp.below hZ Xp.lt
      refine unhide hK _ _ (fun _ => ⟨⟨(Zx.cell 0).trans rfl, (Zx.cell 1).trans rfl, (Zx.cell 2).trans rfl⟩, (Zr.cell 0).trans rfl, (Zp.cell 0).trans rfl⟩) ?_
      clear hK K HSa
      have HSab : Hid ((fun w' => (w'.cell? ⟨Bx, 0, none⟩ = some (.int .i64 (x.1 : Int)) ∧ w'.cell? ⟨Bx, 1, none⟩ = some (.int .i64 (x.2.1 : Int)) ∧ w'.cell? ⟨Bx, 2, none⟩ = some (.int .i64 (x.2.2 : Int))) ∧ w'.cell? ⟨n, 0, none⟩ = some (.int .i64 r) ∧ w'.cell? ⟨n + 1, 0, none⟩ = some (.int .i64 place)) Z) := hide ⟨⟨(Zx.cell 0).trans rfl, (Zx.cell 1).trans rfl, (Zx.cell 2).trans rfl⟩, (Zr.cell 0).trans rfl, (Zp.cell 0).trans rfl⟩
      refine anyL_take (i := 4) (v := .bool (decide ((byE r x : Int) ≤ place))) rfl (by kernel_rfl) (by kernel_rfl) (by kernel_rfl) (by kernel_rfl) (fun _ _ _ h => h) (Or.inl ⟨by rfl, ?hac⟩) (unhide HSab) ?_
      case hac => intro w hSw; (try dsimp only at hSw); go_simp
      simp only [Act.put, List.getElem_toArray, List.getElem_cons_zero, List.getElem_cons_succ, List.setIfInBounds_toArray, List.set_cons_zero, List.set_cons_succ]
      rw [unhide Q1]
      refine anyL_done (by kernel_rfl) ?_ _
      clear HSab
      gi_wp2_with fail
      have HSb : Hid ((fun w' => (w'.cell? ⟨Bx, 0, none⟩ = some (.int .i64 (x.1 : Int)) ∧ w'.cell? ⟨Bx, 1, none⟩ = some (.int .i64 (x.2.1 : Int)) ∧ w'.cell? ⟨Bx, 2, none⟩ = some (.int .i64 (x.2.2 : Int))) ∧ w'.cell? ⟨n, 0, none⟩ = some (.int .i64 r) ∧ w'.cell? ⟨n + 1, 0, none⟩ = some (.int .i64 place)) Z.drew) := hide ⟨⟨(Zx.cell 0).trans rfl, (Zx.cell 1).trans rfl, (Zx.cell 2).trans rfl⟩, (Zr.cell 0).trans rfl, (Zp.cell 0).trans rfl⟩
      refine regionL_in (S := fun w' => (w'.cell? ⟨Bx, 0, none⟩ = some (.int .i64 (x.1 : Int)) ∧ w'.cell? ⟨Bx, 1, none⟩ = some (.int .i64 (x.2.1 : Int)) ∧ w'.cell? ⟨Bx, 2, none⟩ = some (.int .i64 (x.2.2 : Int))) ∧ w'.cell? ⟨n, 0, none⟩ = some (.int .i64 r) ∧ w'.cell? ⟨n + 1, 0, none⟩ = some (.int .i64 place)) (fun _ => false) (by kernel_rfl) ?hd ?hq ?_
      case hd =>
        intro j o c h e
        have := Array.mem_of_getElem? h
        simp only [List.mem_toArray, List.mem_cons, List.not_mem_nil, or_false] at this
        rcases this with rfl | rfl | rfl | rfl | rfl <;> cases e
      case hq => rintro ⟨a, w, h⟩; exact h
      refine anyL_take (i := 0) (v := ?vbn14x0) rfl (by kernel_rfl) (by kernel_rfl) (by kernel_rfl) (by kernel_rfl) (fun _ _ _ h => h) (Or.inl ⟨by rfl, ?hbn14x0⟩) (unhide HSb) ?_
      case hbn14x0 => (intro w hSw; (try dsimp only at hSw); go_simp) <;> with_reducible rfl
      simp only [Act.put, List.getElem_toArray, List.getElem_cons_zero, List.setIfInBounds_toArray, List.set_cons_zero, List.set_cons_succ]
      refine anyL_take (i := 1) (v := ?vbn15x1) rfl (by kernel_rfl) (by kernel_rfl) (by kernel_rfl) (by kernel_rfl) (fun _ _ _ h => h) (Or.inl ⟨by rfl, ?hbn15x1⟩) (unhide HSb) ?_
      case hbn15x1 => (intro w hSw; (try dsimp only at hSw); go_simp) <;> with_reducible rfl
      simp only [Act.put, List.getElem_toArray, List.getElem_cons_zero, List.getElem_cons_succ, List.setIfInBounds_toArray, List.set_cons_zero, List.set_cons_succ]
      refine anyL_take (i := 3) (v := ?vbn16x3) rfl (by kernel_rfl) (by kernel_rfl) (by kernel_rfl) (by kernel_rfl) (fun _ _ _ h => h) (Or.inl ⟨by rfl, ?hbn16x3⟩) (unhide HSb) ?_
      case hbn16x3 => (intro w hSw; (try dsimp only at hSw); go_simp) <;> with_reducible rfl
      simp only [Act.put, List.getElem_toArray, List.getElem_cons_zero, List.getElem_cons_succ, List.setIfInBounds_toArray, List.set_cons_zero, List.set_cons_succ]
      refine anyL_ready (rs := [2]) (by kernel_rfl) (by simp) ?_
      refine AllL.cons rfl (fun K hK => ?_) AllL.nil
      go_simp
      refine (by_at x r Z.drew).mono ?_
      rintro y A ⟨rfl, hA⟩
      have hA : Below Z.heap.size Z A := (show Below Z.heap.size Z Z.drew from ⟨rfl, rfl, rfl, Nat.le_refl _, fun _ _ => rfl⟩).trans hA
      have sA := hA.size
      have Ax := Zx.below hA Zx.lt
      have Ar := Zr.below hA Zr.lt
      have Ap := Zp.below hA Zp.lt
      refine unhide hK _ _ (fun _ => ⟨⟨(Ax.cell 0).trans rfl, (Ax.cell 1).trans rfl, (Ax.cell 2).trans rfl⟩, (Ar.cell 0).trans rfl, (Ap.cell 0).trans rfl⟩) ?_
      clear hK K HSb
      have HSbb : Hid ((fun w' => (w'.cell? ⟨Bx, 0, none⟩ = some (.int .i64 (x.1 : Int)) ∧ w'.cell? ⟨Bx, 1, none⟩ = some (.int .i64 (x.2.1 : Int)) ∧ w'.cell? ⟨Bx, 2, none⟩ = some (.int .i64 (x.2.2 : Int))) ∧ w'.cell? ⟨n, 0, none⟩ = some (.int .i64 r) ∧ w'.cell? ⟨n + 1, 0, none⟩ = some (.int .i64 place)) A) := hide ⟨⟨(Ax.cell 0).trans rfl, (Ax.cell 1).trans rfl, (Ax.cell 2).trans rfl⟩, (Ar.cell 0).trans rfl, (Ap.cell 0).trans rfl⟩
      refine anyL_take (i := 4) (v := .bool (decide (place ≤ (byE r x : Int)))) rfl (by kernel_rfl) (by kernel_rfl) (by kernel_rfl) (by kernel_rfl) (fun _ _ _ h => h) (Or.inl ⟨by rfl, ?hbc⟩) (unhide HSbb) ?_
      case hbc => intro w hSw; (try dsimp only at hSw); go_simp
      simp only [Act.put, List.getElem_toArray, List.getElem_cons_zero, List.getElem_cons_succ, List.setIfInBounds_toArray, List.set_cons_zero, List.set_cons_succ]
      rw [unhide Q2]
      refine anyL_done (by kernel_rfl) ?_ _
      clear HSbb
      have hXA : Below X.heap.size X A := hZ.trans (hA.mono hZ.size)
      have Ad := hi.dn.below hXA hi.dn.lt
      have Au := hi.up.below hXA hi.up.lt
      have Ao := hi.ok.below hXA hi.ok.lt
      generalize hdl : lastE pre = dl at *
      have Ak := KB.all (q := fun k => k < n ∨ k = n + 5) (N := w3.heap.size) hXA
      have AB := hs.trans (hXA.mono (by omega))
      gi_wp2_with fail
      have HSr : Hid ((fun w' => (w'.cell? ⟨n + 2, 0, none⟩ = some (.int .i64 (dl.1 : Int)) ∧ w'.cell? ⟨n + 2, 1, none⟩ = some (.int .i64 (dl.2.1 : Int)) ∧ w'.cell? ⟨n + 2, 2, none⟩ = some (.int .i64 (dl.2.2 : Int))) ∧ w'.cell? ⟨Bx, 0, none⟩ = some (.int .i64 (x.1 : Int)) ∧ w'.cell? ⟨Bx, 1, none⟩ = some (.int .i64 (x.2.1 : Int)) ∧ w'.cell? ⟨Bx, 2, none⟩ = some (.int .i64 (x.2.2 : Int))) A.drew) := hide ⟨⟨(Ad.cell 0).trans rfl, (Ad.cell 1).trans rfl, (Ad.cell 2).trans rfl⟩, (Ax.cell 0).trans rfl, (Ax.cell 1).trans rfl, (Ax.cell 2).trans rfl⟩
      refine regionL_in (S := fun w' => (w'.cell? ⟨n + 2, 0, none⟩ = some (.int .i64 (dl.1 : Int)) ∧ w'.cell? ⟨n + 2, 1, none⟩ = some (.int .i64 (dl.2.1 : Int)) ∧ w'.cell? ⟨n + 2, 2, none⟩ = some (.int .i64 (dl.2.2 : Int))) ∧ w'.cell? ⟨Bx, 0, none⟩ = some (.int .i64 (x.1 : Int)) ∧ w'.cell? ⟨Bx, 1, none⟩ = some (.int .i64 (x.2.1 : Int)) ∧ w'.cell? ⟨Bx, 2, none⟩ = some (.int .i64 (x.2.2 : Int))) (fun i => i == 3 || i == 4) (by kernel_rfl) ?hd ?hq ?_
      case hd =>
        intro j o c h e
        have := Array.mem_of_getElem? h
        simp only [List.mem_toArray, List.mem_cons, List.not_mem_nil, or_false] at this
        rcases this with rfl | rfl | rfl | rfl | rfl <;> cases e
      case hq => rintro ⟨a, w, h⟩; exact h
      have Ud : Cls A.drew _ _ _ := Ad
      have Ux : Cls A.drew _ _ _ := Ax
      have Uu : Cls A.drew _ _ _ := Au
      have Uo : Cls A.drew _ _ _ := Ao
      have Uk : KB (fun k => k < n ∨ k = n + 5) w3.heap.size X A.drew := Ak
      have Ub : Below n w A.drew := AB.trans (drew_below n A)
      generalize A.drew = U at *
      refine anyL_take (i := 0) (v := ?vrn17x0) rfl (by kernel_rfl) (by kernel_rfl) (by kernel_rfl) (by kernel_rfl) (fun _ _ _ h => h) (Or.inl ⟨by rfl, ?hrn17x0⟩) (unhide HSr) ?_
      case hrn17x0 => (intro w hSw; (try dsimp only at hSw); go_simp) <;> with_reducible rfl
      simp only [Act.put, List.getElem_toArray, List.getElem_cons_zero, List.setIfInBounds_toArray, List.set_cons_zero, List.set_cons_succ]
      refine anyL_take (i := 1) (v := ?vrn18x1) rfl (by kernel_rfl) (by kernel_rfl) (by kernel_rfl) (by kernel_rfl) (fun _ _ _ h => h) (Or.inl ⟨by rfl, ?hrn18x1⟩) (unhide HSr) ?_
      case hrn18x1 => (intro w hSw; (try dsimp only at hSw); go_simp) <;> with_reducible rfl
      simp only [Act.put, List.getElem_toArray, List.getElem_cons_zero, List.getElem_cons_succ, List.setIfInBounds_toArray, List.set_cons_zero, List.set_cons_succ]
      have d0 : U.cell? ⟨n + 2, 0, none⟩ = some (.int .i64 (dl.1 : Int)) := (Ud.cell 0).trans rfl
      have fd0 := Ud.frozen 0
      have d1 : U.cell? ⟨n + 2, 1, none⟩ = some (.int .i64 (dl.2.1 : Int)) := (Ud.cell 1).trans rfl
      have fd1 := Ud.frozen 1
      have d2 : U.cell? ⟨n + 2, 2, none⟩ = some (.int .i64 (dl.2.2 : Int)) := (Ud.cell 2).trans rfl
      have fd2 := Ud.frozen 2
      refine anyL_ready (rs := [2]) (by kernel_rfl) (by simp) ?_
      refine AllL.cons rfl (fun K hK => ?_) AllL.nil
      go_simp
      clear d0 d1 d2 fd0 fd1 fd2
      have Vd := put3_same dl Ud
      have Vx := put3_other (g := n + 2) dl Ux (by omega)
      have Vu := put3_other (g := n + 2) dl Uu (by omega)
      have Vo := put3_other (g := n + 2) dl Uo (by omega)
      have Vb := Ub.trans (put3_below (N := n) (g := n + 2) U dl (by omega))
      have Vk := Uk.trans (put3_kb (q := fun k => k < n ∨ k = n + 5) (N := w3.heap.size) U dl (hnq 2 (by decide)) (hnl 2 (by decide)))
      unfold put3 at Vd Vx Vu Vo Vb Vk
      generalize ((U.setCell ⟨n + 2, 0, none⟩ (.int .i64 (dl.1 : Int))).setCell ⟨n + 2, 1, none⟩ (.int .i64 (dl.2.1 : Int))).setCell ⟨n + 2, 2, none⟩ (.int .i64 (dl.2.2 : Int)) = V at *
      refine unhide hK _ _ (fun _ => ⟨⟨(Vd.cell 0).trans rfl, (Vd.cell 1).trans rfl, (Vd.cell 2).trans rfl⟩, (Vx.cell 0).trans rfl, (Vx.cell 1).trans rfl, (Vx.cell 2).trans rfl⟩) ?_
      clear hK K
      have u0 : V.cell? ⟨n + 3, 0, none⟩ = some (.int .i64 (e0.1 : Int)) := (Vu.cell 0).trans rfl
      have fu0 := Vu.frozen 0
      have u1 : V.cell? ⟨n + 3, 1, none⟩ = some (.int .i64 (e0.2.1 : Int)) := (Vu.cell 1).trans rfl
      have fu1 := Vu.frozen 1
      have u2 : V.cell? ⟨n + 3, 2, none⟩ = some (.int .i64 (e0.2.2 : Int)) := (Vu.cell 2).trans rfl
      have fu2 := Vu.frozen 2
      refine anyL_ready (rs := [3]) (by kernel_rfl) (by simp) ?_
      refine AllL.cons rfl (fun K hK => ?_) AllL.nil
      go_simp
      clear u0 u1 u2 fu0 fu1 fu2
      have Td := put3_other (g := n + 3) x Vd (by omega)
      have Tu := put3_same x Vu
      have To := put3_other (g := n + 3) x Vo (by omega)
      have Tb := Vb.trans (put3_below (N := n) (g := n + 3) V x (by omega))
      have Tk := Vk.trans (put3_kb (q := fun k => k < n ∨ k = n + 5) (N := w3.heap.size) V x (hnq 3 (by decide)) (hnl 3 (by decide)))
      unfold put3 at Td Tu To Tb Tk
      generalize ((V.setCell ⟨n + 3, 0, none⟩ (.int .i64 (x.1 : Int))).setCell ⟨n + 3, 1, none⟩ (.int .i64 (x.2.1 : Int))).setCell ⟨n + 3, 2, none⟩ (.int .i64 (x.2.2 : Int)) = T at *
      refine unhide hK _ _ (fun h => absurd h (by decide)) ?_
      clear hK K
      have o0 : T.cell? ⟨n + 4, 0, none⟩ = some (.bool false) := (To.cell 0).trans rfl
      have fo := To.frozen 0
      refine anyL_ready (rs := [4]) (by kernel_rfl) (by simp) ?_
      refine AllL.cons rfl (fun K hK => ?_) AllL.nil
      go_simp
      refine unhide hK _ _ (fun h => absurd h (by decide)) ?_
      clear hK K o0 fo
      refine anyL_done (by kernel_rfl) ?_ _
      have Go := To.set 0 (.bool true)
      have Gd := Td.other ⟨n + 4, 0, none⟩ (.bool true) (show n + 2 ≠ n + 4 by omega)
      have Gu := Tu.other ⟨n + 4, 0, none⟩ (.bool true) (show n + 3 ≠ n + 4 by omega)
      have Gb := Tb.trans (setCell_below (N := n) T ⟨n + 4, 0, none⟩ (.bool true) (show n ≤ n + 4 by omega))
      have Gk := Tk.trans (KB.setCell (q := fun k => k < n ∨ k = n + 5) (N := w3.heap.size) T ⟨n + 4, 0, none⟩ (.bool true) (hnq 4 (by decide)) (hnl 4 (by decide)))
      gi_wp2
      refine ⟨Gk, rfl, ⟨pre, x, rfl, hi.lt, unhide q2', ?_, Gu, Go⟩, Gb⟩
      rw [if_neg (by have := unhide q1'; omega), hdl]
      exact Gd
  case done =>
    rintro D X hD hi hK
    have z3l := Nat.le_of_eq z3.symm
    have d0 := hi.dn
    have u0 := hi.up
    have o0 : X.cell? ⟨n + 4, 0, none⟩ = some (.bool false) := (hi.ok.cell 0).trans rfl
    have fo := hi.ok.frozen 0
    generalize hdl : lastE (EE l) = dl at *
    have p0 : X.cell? ⟨n + 2, 0, none⟩ = some (.int .i64 (dl.1 : Int)) := (d0.cell 0).trans rfl
    have fp0 := d0.frozen 0
    have p1 : X.cell? ⟨n + 2, 1, none⟩ = some (.int .i64 (dl.2.1 : Int)) := (d0.cell 1).trans rfl
    have fp1 := d0.frozen 1
    have p2 : X.cell? ⟨n + 2, 2, none⟩ = some (.int .i64 (dl.2.2 : Int)) := (d0.cell 2).trans rfl
    have fp2 := d0.frozen 2
    have s0 : X.cell? ⟨n + 3, 0, none⟩ = some (.int .i64 (e0.1 : Int)) := (u0.cell 0).trans rfl
    have fs0 := u0.frozen 0
    have s1 : X.cell? ⟨n + 3, 1, none⟩ = some (.int .i64 (e0.2.1 : Int)) := (u0.cell 1).trans rfl
    have fs1 := u0.frozen 1
    have s2 : X.cell? ⟨n + 3, 2, none⟩ = some (.int .i64 (e0.2.2 : Int)) := (u0.cell 2).trans rfl
    have fs2 := u0.frozen 2
    go_wp2_with fail
    obtain ⟨F, hF⟩ : ∃ F, F = (put3 (put3 X (n + 2) e0) (n + 3) e0).setCell ⟨n + 4, 0, none⟩ (.bool false) := ⟨_, rfl⟩
    have Fd : Cls F (n + 2) 102 (edC e0) := by rw [hF]; exact (put3_other (g := n + 3) e0 (put3_same e0 d0) (by omega)).other _ _ (show n + 2 ≠ n + 4 by omega)
    have Fu : Cls F (n + 3) 102 (edC e0) := by rw [hF]; exact (put3_same e0 (put3_other (g := n + 2) e0 u0 (by omega))).other _ _ (show n + 3 ≠ n + 4 by omega)
    have Fo : Cls F (n + 4) 4 #[.bool false] := by rw [hF]; exact (put3_other (g := n + 3) e0 (put3_other (g := n + 2) e0 hi.ok (by omega)) (by omega)).set 0 (.bool false)
    have Fb : Below n X F := by rw [hF]; exact ((put3_below X e0 (by omega)).trans (put3_below _ e0 (by omega))).trans (setCell_below _ _ _ (show n ≤ n + 4 by omega))
    have FD : F.heap[D]? = some (.deferred (some [])) := by
      rw [hF]
      refine (Below.heap_setCell _ _ _ D (show D ≠ n + 4 by omega)).trans ?_
      unfold put3
      iterate 3 refine (Below.heap_setCell _ _ _ D (show D ≠ n + 3 by omega)).trans ?_
      iterate 3 refine (Below.heap_setCell _ _ _ D (show D ≠ n + 2 by omega)).trans ?_
      exact hK
    show bodyPostM _ _ _ _ _ _ _ ((put3 (put3 X (n + 2) e0) (n + 3) e0).setCell ⟨n + 4, 0, none⟩ (.bool false))
    rw [← hF]
    refine ⟨by simp, .inl ⟨_, _, rfl, run_takeDeferred FD, ?_⟩⟩
    have hbp := below_putl (N := n + 5) F D (.deferred none) (by omega)
    have Gd := Fd.below hbp (by omega)
    have Gu := Fu.below hbp (by omega)
    have Go := Fo.below hbp (by omega)
    refine ⟨.tuple #[edV e0, edV e0, .bool false], ?_, .inr ⟨hi.lt, rfl⟩, hn ▸ ((hi.b.trans Fb).trans (hbp.mono (by omega)))⟩
    exact res3 _ rfl rfl rfl Gd Gu Go
  case stop =>
    rintro D c pre X hD hpre hx hK
    obtain ⟨rfl, ⟨pre', u, rfl, h2, h3, h4, h5, h6⟩, hb⟩ := hx
    have z3l := Nat.le_of_eq z3.symm
    gi_wp2_with fail
    refine ⟨by simp, .inl ⟨_, _, rfl, run_takeDeferred hK, ?_⟩⟩
    have hbp := below_putl (N := n + 5) X D (.deferred none) (by omega)
    refine ⟨_, res3 _ rfl rfl rfl (h4.below hbp (by omega)) (h5.below hbp (by omega)) (h6.below hbp (by omega)), .inl ⟨pre', u, hpre, h2, h3, rfl⟩, hn ▸ (hb.trans (hbp.mono (by omega)))⟩
end Go.Proofs.YteamaneompijkaaGreatDoor
