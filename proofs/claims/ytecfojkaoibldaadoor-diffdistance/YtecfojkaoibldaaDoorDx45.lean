/- Layer 19: cutBoth: both texts' pieces, numbered alike. -/
import Derived.Test.YtecfojkaoibldaaDoorDx44

namespace Go.Proofs.YtecfojkaoibldaaDoor
open Go.ChangeShapes Go.WideShapes Go.ChangeAt Go.RowKit
attribute [local go_sem] Oper.semAt_some

/-- what a way to cut texts answers -/
structure CutF (f : Nat) (cut : List Int → List Nat) (w : World) (a0 : Option Addr) (c0 : Nat) (l : List Int) : Prop where
  call : ∀ X, Below w.heap.size w X → Calls Tryd.prog f #[.slice a0 l.length c0] X fun y X' => ∃ a' n' c', y = .returned (.tuple #[.slice a' n' c', .bool (decide ((cut l).length ≤ 2049))]) ∧ Below X.heap.size X X' ∧
    ((cut l).length ≤ 2049 → n' = (cut l).length ∧ IsI X' a' (cut l) ∧ (cut l).length ≤ c')
  ok : OkCut l (cut l)
theorem Cls.three {W : World} {B : Nat} {t : TypeId} {a b c : Value} (h : Cls W B t #[a, b, c]) : W.cell? ⟨B, 0, none⟩ = some a ∧ W.cell? ⟨B, 1, none⟩ = some b ∧ W.cell? ⟨B, 2, none⟩ = some c := ⟨(h.cell 0).trans rfl, (h.cell 1).trans rfl, (h.cell 2).trans rfl⟩
theorem Cls.fro3 {W : World} {B : Nat} {t : TypeId} {a b c : Value} (h : Cls W B t #[a, b, c]) : W.frozen? ⟨B, 0, none⟩ = false ∧ W.frozen? ⟨B, 1, none⟩ = false ∧ W.frozen? ⟨B, 2, none⟩ = false := ⟨h.frozen 0, h.frozen 1, h.frozen 2⟩
/-- a struct of three cells stored -/
theorem Cls.put3 {W X : World} {B N : Nat} {t : TypeId} {a b c : Value} (h : Cls W B t #[a, b, c]) (u v x : Value) (hb : Below N X W) (hN : N ≤ B) :
    Cls (((W.setCell ⟨B, 0, none⟩ u).setCell ⟨B, 1, none⟩ v).setCell ⟨B, 2, none⟩ x) B t #[u, v, x] ∧ Below N X (((W.setCell ⟨B, 0, none⟩ u).setCell ⟨B, 1, none⟩ v).setCell ⟨B, 2, none⟩ x) := by
  refine ⟨((h.set 0 u).set 1 v).set 2 x, ?_⟩
  exact ((hb.setCell (p := ⟨B, 0, none⟩) hN u).setCell (p := ⟨B, 1, none⟩) hN v).setCell (p := ⟨B, 2, none⟩) hN x
theorem put3_bl (W : World) (B : Nat) (u v x : Value) {N : Nat} (hN : N ≤ B) : Below N W (((W.setCell ⟨B, 0, none⟩ u).setCell ⟨B, 1, none⟩ v).setCell ⟨B, 2, none⟩ x) :=
  (((Below.refl N W).setCell (p := ⟨B, 0, none⟩) hN u).setCell (p := ⟨B, 1, none⟩) hN v).setCell (p := ⟨B, 2, none⟩) hN x
theorem put3_ot (W : World) (B : Nat) (u v x : Value) {g : Nat} (h : g ≠ B) : (((W.setCell ⟨B, 0, none⟩ u).setCell ⟨B, 1, none⟩ v).setCell ⟨B, 2, none⟩ x).heap[g]? = W.heap[g]? := by
  rw [Below.heap_setCell _ _ _ g h, Below.heap_setCell _ _ _ g h, Below.heap_setCell _ _ _ g h]
theorem resC {X : World} {a b : Nat} {t t' : TypeId} {u v x u' v' x' e : Value} (tmps : Array Value) (g4 : tmps[6]?.getD undef = .pointer (some ⟨a, 0, none⟩)) (g5 : tmps[7]?.getD undef = .pointer (some ⟨b, 0, none⟩)) (g6 : tmps[8]?.getD undef = e)
    (h1 : Cls X a t #[u, v, x]) (h2 : Cls X b t' #[u', v', x']) : (results Tryd.f26 tmps).run Tryd.prog X = .ok (.tuple #[.agg #[u, v, x], .agg #[u', v', x'], e]) X := by
  obtain ⟨p0, p1, p2⟩ := h1.three
  obtain ⟨q0, q1, q2⟩ := h2.three
  simp [results, Tryd.results26, go_sem, g4, g5, g6, p0, p1, p2, q0, q1, q2]
/-- a list lies apart from some blocks -/
def Away (a : Option Addr) (x : List Nat) (F : Nat → Prop) : Prop := x = [] ∨ ∀ g off s, a = some ⟨g, off, s⟩ → ¬ F g
theorem IsI.kf {F : Nat → Prop} {Y Z : World} {a : Option Addr} {x : List Nat} (h : IsI Y a x) (k : KpF F Y Z) (hw : Away a x F) : IsI Z a x := by
  rcases h with h | ⟨g, off, h1, h2, h3⟩
  · exact .inl h
  · rcases hw with hw | hw
    · exact .inl hw
    · refine .inr ⟨g, off, h1, Nat.lt_of_lt_of_le h2 k.size, fun j hj => ?_⟩
      rw [World.cell?_of_block (a := ⟨g, off + j, none⟩) (k.block g h2 (hw _ _ _ h1))]
      exact h3 j hj
theorem ra_ints2 {X : World} {v : Value} {L : List Nat} {k : Option Nat} (h : RA X 1 v L.length (intsN L) k) : ∃ a c, v = .slice a L.length c ∧ IsI X a L ∧ L.length ≤ c ∧ ∀ g off s, a = some ⟨g, off, s⟩ → k = some g := by
  rcases h.val with ⟨rfl, h0, _⟩ | ⟨g, off, c, rfl, hk, hg, hlc, _, hc⟩
  · exact ⟨none, 0, by rw [h0], .inl (List.length_eq_zero_iff.1 h0), by omega, fun _ _ _ e => by cases e⟩
  · refine ⟨_, c, rfl, .inr ⟨g, off, rfl, hg, fun j hj => ?_⟩, hlc, fun _ _ _ e => by cases e; exact hk⟩
    rw [hc _ (by omega)]
    simp [intsN, List.getD, List.getElem?_eq_getElem hj]
theorem isI_ne {Y : World} {a : Option Addr} {x : List Nat} {g : Nat} {t : TypeId} {u v z : Value} (h : IsI Y a x) (hx : 0 < x.length) (hk : Cls Y g t #[u, v, z]) (hu : ∀ n, u ≠ .int .i64 n) (hv : ∀ n, v ≠ .int .i64 n) (hz : ∀ n, z ≠ .int .i64 n) : ∀ b off s, a = some ⟨b, off, s⟩ → b ≠ g ∧ b < Y.heap.size := by
  rintro b off s rfl
  obtain ⟨b', off', e, hb, hc⟩ := h.at hx
  cases e
  refine ⟨?_, hb⟩
  rintro rfl
  have h0 := hc 0 hx
  have h1 := hk.cell (off + 0)
  rw [h0] at h1
  rcases Nat.lt_or_ge (off + 0) 3 with g | g
  · obtain g | g | g : off + 0 = 0 ∨ off + 0 = 1 ∨ off + 0 = 2 := by omega
    · rw [g] at h1; exact hu _ (by simpa using h1.symm)
    · rw [g] at h1; exact hv _ (by simpa using h1.symm)
    · rw [g] at h1; exact hz _ (by simpa using h1.symm)
  · rw [Array.getElem?_eq_none (by simpa using g)] at h1; cases h1
theorem KpF.put3 (W : World) (B : Nat) (u v x : Value) {F : Nat → Prop} (h : F B) : KpF F W (((W.setCell ⟨B, 0, none⟩ u).setCell ⟨B, 1, none⟩ v).setCell ⟨B, 2, none⟩ x) :=
  ((KpF.set W ⟨B, 0, none⟩ u h).trans (KpF.set _ ⟨B, 1, none⟩ v h) (fun _ _ e => e)).trans (KpF.set _ ⟨B, 2, none⟩ x h) (fun _ _ e => e)
set_option maxRecDepth 100000 in
set_option maxHeartbeats 8000000 in
theorem cutBoth_at (f : Nat) (cut : List Int → List Nat) (a0 : Option Addr) (c0 : Nat) (l : List Int) (b0 : Option Addr) (d0 : Nat) (m : List Int) (w : World) (ef : ∀ args w, (callFunc f args).run Tryd.prog w = .ok (.enter f args) w) (hl : CutF f cut w a0 c0 l) (hm : CutF f cut w b0 d0 m) (hB : IsB w a0 c0 l) (hB' : IsB w b0 d0 m) :
    Calls Tryd.prog 26 #[.slice a0 l.length c0, .slice b0 m.length d0, .func (.func f) #[] #[]] w fun y w' => Below w.heap.size w w' ∧
      ((¬ ((cut l).length ≤ 2049 ∧ (cut m).length ≤ 2049) ∧ y = .returned (.tuple #[.agg #[.slice none 0 0, .slice none 0 0, .slice none 0 0], .agg #[.slice none 0 0, .slice none 0 0, .slice none 0 0], .int .i64 190])) ∨
       ((cut l).length ≤ 2049 ∧ (cut m).length ≤ 2049 ∧ ∃ a1 c1 a2 c2 a3 c3 a4 c4, y = .returned (.tuple #[.agg #[.slice a0 l.length c0, .slice a1 (cut l).length c1, .slice a2 (numP [] (cutP l (cut l))).length c2], .agg #[.slice b0 m.length d0, .slice a3 (cut m).length c3, .slice a4 (numP (knoP [] (cutP l (cut l))) (cutP m (cut m))).length c4], .int .i64 0]) ∧
         (IsI w' a1 (cut l) ∧ IsI w' a2 (numP [] (cutP l (cut l))) ∧ (numP [] (cutP l (cut l))).length ≤ c2) ∧ (IsI w' a3 (cut m) ∧ IsI w' a4 (numP (knoP [] (cutP l (cut l))) (cutP m (cut m))) ∧ (numP (knoP [] (cutP l (cut l))) (cutP m (cut m))).length ≤ c4))) := by
  have HL := hide hl
  have HM := hide hm
  have HB1 := hide hB
  have HB2 := hide hB'
  clear hl hm hB hB'
  have k6 := Cls.new w 53 #[.slice none 0 0, .slice none 0 0, .slice none 0 0]
  have x1 := (Below.refl w.heap.size w).alloc (Nat.le_refl _) (.cells #[.slice none 0 0, .slice none 0 0, .slice none 0 0] 53)
  have k6' := k6.alloc (.cells #[.slice none 0 0, .slice none 0 0, .slice none 0 0] 53)
  have k7 := Cls.new (w.alloc (.cells #[.slice none 0 0, .slice none 0 0, .slice none 0 0] 53)) 53 #[.slice none 0 0, .slice none 0 0, .slice none 0 0]
  have x2 := x1.alloc x1.size (.cells #[.slice none 0 0, .slice none 0 0, .slice none 0 0] 53)
  have HX2 := hide x2
  have HK6 := hide k6'
  have HK7 := hide k7
  clear k6 k7 k6' x1 x2
  go_enter Tryd.func26, Tryd.ntmps26
  go_wp2_with fail
  obtain ⟨g6, hg6⟩ : ∃ g6, g6 = w.heap.size := ⟨_, rfl⟩
  rw [World.size_alloc, ← hg6] at HK7
  rw [← hg6] at HK6 ⊢
  have HG := hide hg6
  clear hg6
  generalize ((w.alloc (.cells #[.slice none 0 0, .slice none 0 0, .slice none 0 0] 53)).alloc (.cells #[.slice none 0 0, .slice none 0 0, .slice none 0 0] 53)) = w2 at *
  refine ((unhide HL).call w2 (unhide HX2)).mono ?_
  rintro y w3 ⟨a1, n1, c1, rfl, hb3, h3⟩
  dsimp only
  have HX3 := hide ((unhide HX2).trans (hb3.mono (unhide HX2).size))
  have HK6 := hide ((unhide HK6).below hb3 (unhide HK6).lt)
  have HK7 := hide ((unhide HK7).below hb3 (unhide HK7).lt)
  have HA1 := hide h3
  clear hb3 h3 HX2
  by_cases hA : (cut l).length ≤ 2049
  · rw [decide_eq_true hA]
    go_wp2_with fail
    refine ((unhide HM).call w3 (unhide HX3)).mono ?_
    rintro y w4 ⟨a3, n3, c3, rfl, hb4, h4⟩
    dsimp only
    have HX4 := hide ((unhide HX3).trans (hb4.mono (unhide HX3).size))
    have K6 := (unhide HK6).below hb4 (unhide HK6).lt
    have K7 := (unhide HK7).below hb4 (unhide HK7).lt
    obtain ⟨e1, i1, l1⟩ := unhide HA1 hA
    have i1' := i1.below hb4 (Nat.le_refl _)
    have HA3 := hide h4
    clear hb4 h4 HX3 HK6 HK7 HA1 i1
    subst e1
    by_cases hC : (cut m).length ≤ 2049
    · obtain ⟨e3, i3, l3⟩ := unhide HA3 hC
      subst e3
      rw [decide_eq_true hC]
      clear HA3
      have nS : ∀ (x : Option Addr) (y z : Nat) (n : Int), Value.slice x y z ≠ .int .i64 n := fun _ _ _ _ e => by cases e
      have p1 := (unhide HL).ok.pos
      have p3 := (unhide HM).ok.pos
      have n16 := isI_ne i1' p1 K6 (nS _ _ _) (nS _ _ _) (nS _ _ _)
      have n17 := isI_ne i1' p1 K7 (nS _ _ _) (nS _ _ _) (nS _ _ _)
      have n36 := isI_ne i3 p3 K6 (nS _ _ _) (nS _ _ _) (nS _ _ _)
      have n37 := isI_ne i3 p3 K7 (nS _ _ _) (nS _ _ _) (nS _ _ _)
      have RM := run_makeMap (P := Tryd.prog) 76 w4
      have z6 := K6.lt
      have z7 := K7.lt
      have b5 : Below w4.heap.size w4 (w4.alloc (.map #[] 0)) := (Below.refl _ w4).alloc (Nat.le_refl _) _
      have kn5 := IsKn.new w4
      have zw : w.heap.size = g6 := (unhide HG).symm
      have X5 : Below w.heap.size w (w4.alloc (.map #[] 0)) := (unhide HX4).trans (b5.mono (unhide HX4).size)
      have s5 : (w4.alloc (.map #[] 0)).heap.size = w4.heap.size + 1 := by simp
      obtain ⟨r, hr⟩ : ∃ r, r = w4.heap.size := ⟨_, rfl⟩
      rw [← hr] at kn5 RM
      have K6' := K6.same (b5.block _ z6)
      have K7' := K7.same (b5.block _ z7)
      have i15 := i1'.below b5 (Nat.le_refl _)
      have i35 := i3.below b5 (Nat.le_refl _)
      -- both lists lie apart from what is written from here on
      have aw1 : Away a1 (cut l) (fun k => k = g6 ∨ k = g6 + 1 ∨ k = r) := .inr fun g off s e => by
        have := n16 _ _ _ e; have := n17 _ _ _ e; rintro (h | h | h) <;> omega
      have aw3 : Away a3 (cut m) (fun k => k = g6 ∨ k = g6 + 1 ∨ k = r) := .inr fun g off s e => by
        have := n36 _ _ _ e; have := n37 _ _ _ e; rintro (h | h | h) <;> omega
      have HB5 : ∀ X, KpF (fun k => k = g6 ∨ k = g6 + 1 ∨ k = r) (w4.alloc (.map #[] 0)) X → Below w.heap.size w X := fun X hX => X5.trans (hX.below X5.size fun k hk => by omega)
      clear n16 n17 n36 n37 K6 K7 X5 b5 i1' i3 nS p1 p3 HX4
      generalize w4.alloc (.map #[] 0) = w5 at *
      have hN1 := numbered_at a0 c0 l a1 c1 (cut l) r [] w5 (fun X hX => (unhide HB1).below (HB5 X (hX.mono fun k _ e => .inr (.inr e))) (Nat.le_refl _)) (fun X hX => i15.kf (hX.mono fun k _ e => .inr (.inr e)) aw1) kn5 (unhide HL).ok (by omega)
      have HN1 := hide hN1
      have HAW := hide (And.intro aw1 aw3)
      have HKS := hide (And.intro K6' K7')
      have HII := hide (And.intro i15 i35)
      have HBB := hide HB5
      have HZ : Hid (g6 < w5.heap.size ∧ g6 + 1 < w5.heap.size ∧ r < w5.heap.size ∧ g6 + 1 < r) := hide (by omega)
      have HLN := hide (And.intro l1 l3)
      clear hN1 aw1 aw3 K6' K7' i15 i35 HB5 kn5 z6 z7 zw s5 hr l1 l3
      go_wp2_with fail
      refine (unhide HN1).mono ?_
      rintro y w6 ⟨v1, rfl, nb1⟩
      dsimp only
      clear HN1 RM
      obtain ⟨k1, ra1, hk1⟩ := nb1.row
      have len1 : (cutP l (cut l)).length = (numP [] (cutP l (cut l))).length := by simp [numP]
      rw [len1] at ra1
      obtain ⟨a2, c2, rfl, i2, l2, o2⟩ := ra_ints2 ra1
      have f6 : KpF (fun k => k = g6 ∨ k = g6 + 1 ∨ k = r) w5 w6 := nb1.f.mono fun k _ e => .inr (.inr e)
      have aw2 : Away a2 (numP [] (cutP l (cut l))) (fun k => k = g6 ∨ k = g6 + 1 ∨ k = r) := .inr fun g off s e => by
        have := hk1 _ (o2 _ _ _ e); have := unhide HZ; rintro (h | h | h) <;> omega
      have k66 := (unhide HKS).1.kpf nb1.f (by have := unhide HZ; omega)
      have k76 := (unhide HKS).2.kpf nb1.f (by have := unhide HZ; omega)
      obtain ⟨q0, q1, q2⟩ := k66.three
      obtain ⟨s0, s1, s2⟩ := k66.fro3
      have kn6 := nb1.m
      have HNX := hide (show (numP [] (cutP l (cut l))) = (numP [] (cutP l (cut l))) from rfl)
      have F7 := KpF.put3 w6 g6 (.slice a0 l.length c0) (.slice a1 (cut l).length c1) (.slice a2 (numP [] (cutP l (cut l))).length c2) (F := fun k => k = g6 ∨ k = g6 + 1 ∨ k = r) (.inl rfl)
      have k67 := (k66.put3 (.slice a0 l.length c0) (.slice a1 (cut l).length c1) (.slice a2 (numP [] (cutP l (cut l))).length c2) (Below.refl 0 w6) (Nat.zero_le _)).1
      have k77 := k76.same (put3_ot w6 g6 (.slice a0 l.length c0) (.slice a1 (cut l).length c1) (.slice a2 (numP [] (cutP l (cut l))).length c2) (by omega))
      have kn7 : IsKn _ r (knoP [] (cutP l (cut l))) := kn6.same (put3_ot w6 g6 (.slice a0 l.length c0) (.slice a1 (cut l).length c1) (.slice a2 (numP [] (cutP l (cut l))).length c2) (by have := unhide HZ; omega))
      have i27 := i2.kf F7 aw2
      have F57 := f6.trans F7 (fun _ _ e => e)
      have i17 := (unhide HII).1.kf F57 (unhide HAW).1
      have i37 := (unhide HII).2.kf F57 (unhide HAW).2
      have lenN : (cutP l (cut l)).length = (cut l).length - 1 := cutP_len l (cut l)
      clear k66 k76 kn6 F7 f6 i2 ra1 nb1 hk1 o2
      go_wp2_with fail
      generalize ((w6.setCell ⟨g6, 0, none⟩ (.slice a0 l.length c0)).setCell ⟨g6, 1, none⟩ (.slice a1 (cut l).length c1)).setCell ⟨g6, 2, none⟩ (.slice a2 (numP [] (cutP l (cut l))).length c2) = w7 at *
      clear q0 q1 q2 s0 s1 s2
      have HN2 := hide (numbered_at b0 d0 m a3 c3 (cut m) r (knoP [] (cutP l (cut l))) w7 (fun X hX => (unhide HB2).below (unhide HBB X (F57.trans (hX.mono fun k _ e => .inr (.inr e)) (fun _ _ e => e))) (Nat.le_refl _)) (fun X hX => i37.kf (hX.mono fun k _ e => .inr (.inr e)) (unhide HAW).2) kn7 (unhide HM).ok (by omega))
      refine (unhide HN2).mono ?_
      rintro y w8 ⟨v2, rfl, nb2⟩
      dsimp only
      clear HN2 kn7
      obtain ⟨k2, ra2, hk2⟩ := nb2.row
      have len2 : (cutP m (cut m)).length = (numP (knoP [] (cutP l (cut l))) (cutP m (cut m))).length := by simp [numP]
      rw [len2] at ra2
      obtain ⟨a4, c4, rfl, i4, l4, o4⟩ := ra_ints2 ra2
      have s57 := F57.size
      have F8 : KpF (fun k => k = g6 ∨ k = g6 + 1 ∨ k = r) w7 w8 := nb2.f.mono fun k _ e => .inr (.inr e)
      have aw4 : Away a4 (numP (knoP [] (cutP l (cut l))) (cutP m (cut m))) (fun k => k = g6 ∨ k = g6 + 1 ∨ k = r) := .inr fun g off s e => by
        have := hk2 _ (o4 _ _ _ e); have := unhide HZ; rintro (h | h | h) <;> omega
      have k68 := k67.kpf nb2.f (by have := unhide HZ; omega)
      have k78 := k77.kpf nb2.f (by have := unhide HZ; omega)
      obtain ⟨q0, q1, q2⟩ := k78.three
      obtain ⟨s0, s1, s2⟩ := k78.fro3
      have F9 := KpF.put3 w8 (g6 + 1) (.slice b0 m.length d0) (.slice a3 (cut m).length c3) (.slice a4 (numP (knoP [] (cutP l (cut l))) (cutP m (cut m))).length c4) (F := fun k => k = g6 ∨ k = g6 + 1 ∨ k = r) (.inr (.inl rfl))
      have k79 := (k78.put3 (.slice b0 m.length d0) (.slice a3 (cut m).length c3) (.slice a4 (numP (knoP [] (cutP l (cut l))) (cutP m (cut m))).length c4) (Below.refl 0 w8) (Nat.zero_le _)).1
      have k69 := k68.same (put3_ot w8 (g6 + 1) (.slice b0 m.length d0) (.slice a3 (cut m).length c3) (.slice a4 (numP (knoP [] (cutP l (cut l))) (cutP m (cut m))).length c4) (by omega))
      have F79 := F8.trans F9 (fun _ _ e => e)
      have i19 := i17.kf F79 (unhide HAW).1
      have i29 := i27.kf F79 aw2
      have i39 := i37.kf F79 (unhide HAW).2
      have i49 := i4.kf F9 aw4
      have F59 := F57.trans F79 (fun _ _ e => e)
      clear k68 k78 F8 F9 F79 F57 i17 i27 i37 i4 ra2 nb2 hk2 o4 k67 k77
      go_wp2_with fail
      generalize ((w8.setCell ⟨g6 + 1, 0, none⟩ (.slice b0 m.length d0)).setCell ⟨g6 + 1, 1, none⟩ (.slice a3 (cut m).length c3)).setCell ⟨g6 + 1, 2, none⟩ (.slice a4 (numP (knoP [] (cutP l (cut l))) (cutP m (cut m))).length c4) = w9 at *
      clear q0 q1 q2 s0 s1 s2
      have K60 : Cls w9.drew g6 53 _ := k69
      have K70 : Cls w9.drew (g6 + 1) 53 _ := k79
      have S0 := And.intro K60.three.1 (And.intro K60.three.2.1 (And.intro K60.three.2.2 K70.three))
      have P1 := K60.put3 (.slice a0 l.length c0) (.slice a1 (cut l).length c1) (.slice a2 (numP [] (cutP l (cut l))).length c2) (Below.refl 0 _) (Nat.zero_le _)
      have K61 := P1.1
      have K71 := K70.same (put3_ot w9.drew g6 (.slice a0 l.length c0) (.slice a1 (cut l).length c1) (.slice a2 (numP [] (cutP l (cut l))).length c2) (by omega))
      have S1 := And.intro K61.three.1 (And.intro K61.three.2.1 (And.intro K61.three.2.2 K71.three))
      have P2 := K71.put3 (.slice b0 m.length d0) (.slice a3 (cut m).length c3) (.slice a4 (numP (knoP [] (cutP l (cut l))) (cutP m (cut m))).length c4) (Below.refl 0 _) (Nat.zero_le _)
      have K72 := P2.1
      have K62 := K61.same (put3_ot _ (g6 + 1) (.slice b0 m.length d0) (.slice a3 (cut m).length c3) (.slice a4 (numP (knoP [] (cutP l (cut l))) (cutP m (cut m))).length c4) (by omega))
      have S2 := And.intro K62.three.1 (And.intro K62.three.2.1 (And.intro K62.three.2.2 K72.three))
      have FD : KpF (fun k => k = g6 ∨ k = g6 + 1 ∨ k = r) w9 w9.drew := KpF.of ((Below.refl _ w9).drew)
      have FE := (FD.trans (KpF.put3 w9.drew g6 (.slice a0 l.length c0) (.slice a1 (cut l).length c1) (.slice a2 (numP [] (cutP l (cut l))).length c2) (F := fun k => k = g6 ∨ k = g6 + 1 ∨ k = r) (.inl rfl)) (fun _ _ e => e)).trans (KpF.put3 _ (g6 + 1) (.slice b0 m.length d0) (.slice a3 (cut m).length c3) (.slice a4 (numP (knoP [] (cutP l (cut l))) (cutP m (cut m))).length c4) (F := fun k => k = g6 ∨ k = g6 + 1 ∨ k = r) (.inr (.inl rfl))) (fun _ _ e => e)
      have J1 := i19.kf FE (unhide HAW).1
      have J2 := i29.kf FE aw2
      have J3 := i39.kf FE (unhide HAW).2
      have J4 := i49.kf FE aw4
      have JB := unhide HBB _ (F59.trans FE (fun _ _ e => e))
      have HJ := hide (And.intro J1 (And.intro J2 (And.intro J3 (And.intro J4 JB))))
      have HK2 := hide (And.intro K62 K72)
      obtain ⟨t0, t1, t2⟩ := K60.fro3
      obtain ⟨u0, u1, u2⟩ := K71.fro3
      clear J1 J2 J3 J4 JB K61 K62 K72 P1 P2 FD FE i19 i29 i39 i49 F59 aw2 aw4 k69 k79
      refine regionL (S := fun w' => w'.cell? ⟨g6, 0, none⟩ = some (.slice a0 l.length c0) ∧ w'.cell? ⟨g6, 1, none⟩ = some (.slice a1 (cut l).length c1) ∧ w'.cell? ⟨g6, 2, none⟩ = some (.slice a2 (numP [] (cutP l (cut l))).length c2) ∧ w'.cell? ⟨g6 + 1, 0, none⟩ = some (.slice b0 m.length d0) ∧ w'.cell? ⟨g6 + 1, 1, none⟩ = some (.slice a3 (cut m).length c3) ∧ w'.cell? ⟨g6 + 1, 2, none⟩ = some (.slice a4 (numP (knoP [] (cutP l (cut l))) (cutP m (cut m))).length c4)) (fun _ => false) (by kernel_rfl) ?_
      generalize w9.drew = v0 at *
      refine anyL_take (i := 0) (v := ?vq0) rfl (by kernel_rfl) (by kernel_rfl) (by kernel_rfl) (by kernel_rfl) (fun _ _ _ h => h) (Or.inl ⟨by rfl, ?hq0⟩) (S0) ?_
      case hq0 => (intro w hSw; (try dsimp only at hSw); go_simp) <;> with_reducible rfl
      simp only [Act.put, List.getElem_toArray, List.getElem_cons_zero, List.setIfInBounds_toArray, List.set_cons_zero, List.set_cons_succ]
      refine anyL_take (i := 1) (v := ?vq1) rfl (by kernel_rfl) (by kernel_rfl) (by kernel_rfl) (by kernel_rfl) (fun _ _ _ h => h) (Or.inl ⟨by rfl, ?hq1⟩) (S0) ?_
      case hq1 => (intro w hSw; (try dsimp only at hSw); go_simp) <;> with_reducible rfl
      simp only [Act.put, List.getElem_toArray, List.getElem_cons_zero, List.getElem_cons_succ, List.setIfInBounds_toArray, List.set_cons_zero, List.set_cons_succ]
      refine anyL_ready (rs := [2]) (by kernel_rfl) (by simp) ?_
      refine AllL.cons rfl (fun K hK => ?_) AllL.nil
      go_simp
      refine unhide hK _ _ (fun _ => S1) ?_
      clear hK K
      refine anyL_ready (rs := [3]) (by kernel_rfl) (by simp) ?_
      refine AllL.cons rfl (fun K hK => ?_) AllL.nil
      go_simp
      refine unhide hK _ _ (fun _ => S2) ?_
      clear hK K
      refine anyL_take (i := 4) (v := ?vq2) rfl (by kernel_rfl) (by kernel_rfl) (by kernel_rfl) (by kernel_rfl) (fun _ _ _ h => h) (Or.inl ⟨by rfl, ?hq2⟩) (S2) ?_
      case hq2 => (intro w hSw; (try dsimp only at hSw); go_simp) <;> with_reducible rfl
      simp only [Act.put, List.getElem_toArray, List.getElem_cons_zero, List.getElem_cons_succ, List.setIfInBounds_toArray, List.set_cons_zero, List.set_cons_succ]
      refine anyL_done (by kernel_rfl) ?_ _
      go_wp2_with fail
      exact bodyPost_ret (resC _ rfl rfl rfl (unhide HK2).1 (unhide HK2).2) rfl ⟨(unhide HJ).2.2.2.2, .inr ⟨hA, hC, a1, c1, a2, c2, a3, c3, a4, c4, rfl, ⟨(unhide HJ).1, (unhide HJ).2.1, l2⟩, (unhide HJ).2.2.1, (unhide HJ).2.2.2.1, l4⟩⟩
    · rw [decide_eq_false hC]
      obtain ⟨p0, p1, p2⟩ := K6.three
      obtain ⟨q0, q1, q2⟩ := K7.three
      obtain ⟨r0, r1, r2⟩ := K6.fro3
      obtain ⟨s0, s1, s2⟩ := K7.fro3
      clear i1' l1 HA3
      go_wp2_with fail
      have Z1 := put3_bl w4 g6 (.slice none 0 0) (.slice none 0 0) (.slice none 0 0) (Nat.le_refl _)
      obtain ⟨Z6, B6⟩ := K6.put3 (.slice none 0 0) (.slice none 0 0) (.slice none 0 0) (unhide HX4) (by rw [unhide HG]; exact Nat.le_refl _)
      have Z7 := K7.same (put3_ot w4 g6 (.slice none 0 0) (.slice none 0 0) (.slice none 0 0) (by omega))
      obtain ⟨Y7, B7⟩ := Z7.put3 (.slice none 0 0) (.slice none 0 0) (.slice none 0 0) B6 (by rw [unhide HG]; omega)
      have Y6 := Z6.same (put3_ot _ (g6 + 1) (.slice none 0 0) (.slice none 0 0) (.slice none 0 0) (by omega))
      exact bodyPost_ret (resC _ rfl rfl rfl Y6 Y7) rfl ⟨B7, .inl ⟨fun h => hC h.2, rfl⟩⟩
  · rw [decide_eq_false hA]
    go_wp2_with fail
    refine ((unhide HM).call w3 (unhide HX3)).mono ?_
    rintro y w4 ⟨a2, n2, c2, rfl, hb4, h4⟩
    dsimp only
    have HX4 := hide ((unhide HX3).trans (hb4.mono (unhide HX3).size))
    have K6 := (unhide HK6).below hb4 (unhide HK6).lt
    have K7 := (unhide HK7).below hb4 (unhide HK7).lt
    clear hb4 h4 HX3 HK6 HK7
    obtain ⟨p0, p1, p2⟩ := K6.three
    obtain ⟨q0, q1, q2⟩ := K7.three
    obtain ⟨r0, r1, r2⟩ := K6.fro3
    obtain ⟨s0, s1, s2⟩ := K7.fro3
    go_wp2_with fail
    have Z1 := put3_bl w4 g6 (.slice none 0 0) (.slice none 0 0) (.slice none 0 0) (Nat.le_refl _)
    obtain ⟨Z6, B6⟩ := K6.put3 (.slice none 0 0) (.slice none 0 0) (.slice none 0 0) (unhide HX4) (by rw [unhide HG]; exact Nat.le_refl _)
    have Z7 := K7.same (put3_ot w4 g6 (.slice none 0 0) (.slice none 0 0) (.slice none 0 0) (by omega))
    obtain ⟨Y7, B7⟩ := Z7.put3 (.slice none 0 0) (.slice none 0 0) (.slice none 0 0) B6 (by rw [unhide HG]; omega)
    have Y6 := Z6.same (put3_ot _ (g6 + 1) (.slice none 0 0) (.slice none 0 0) (.slice none 0 0) (by omega))
    exact bodyPost_ret (resC _ rfl rfl rfl Y6 Y7) rfl ⟨B7, .inl ⟨fun h => hA h.1, rfl⟩⟩
end Go.Proofs.YtecfojkaoibldaaDoor
