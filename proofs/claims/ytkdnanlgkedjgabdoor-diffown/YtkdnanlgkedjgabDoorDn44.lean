/- Layer 19: cutBoth: both texts' pieces, numbered alike. · Layer 19: changed: the changes between the pieces that are kept. · Layer 19, plain: the delta that the program's runs make, operation by operation. -/
import Derived.Test.YtkdnanlgkedjgabDoorDn43
import Derived.Test.YtkdnanlgkedjgabDoorDn41

section
namespace Go.Proofs.YtkdnanlgkedjgabDoor
open Go.ChangeShapes Go.WideShapes Go.ChangeAt Go.RowKit
attribute [local go_sem] Oper.semAt_some

/-- what a way to cut texts answers -/
structure CutF (f : Nat) (cut : List Int → List Nat) (w : World) (a0 : Option Addr) (c0 : Nat) (l : List Int) : Prop where
  call : ∀ X, Below w.heap.size w X → Calls Tryd.prog f #[.slice a0 l.length c0] X fun y X' => ∃ a' n' c', y = .returned (.tuple #[.slice a' n' c', .bool (decide ((cut l).length ≤ 2049))]) ∧ Below X.heap.size X X' ∧
    ((cut l).length ≤ 2049 → n' = (cut l).length ∧ IsI X' a' (cut l) ∧ (cut l).length ≤ c')
  ok : OkCut l (cut l)
theorem Cls.three {W : World} {B : Nat} {t : TypeId} {a b c : Value} (h : Cls W B t #[a, b, c]) : W.cell? ⟨B, 0, none⟩ = some a ∧ W.cell? ⟨B, 1, none⟩ = some b ∧ W.cell? ⟨B, 2, none⟩ = some c := ⟨(h.cell 0).trans rfl, (h.cell 1).trans rfl, (h.cell 2).trans rfl⟩
theorem Cls.fro3 {W : World} {B : Nat} {t : TypeId} {a b c : Value} (h : Cls W B t #[a, b, c]) : W.frozen? ⟨B, 0, none⟩ = false ∧ W.frozen? ⟨B, 1, none⟩ = false ∧ W.frozen? ⟨B, 2, none⟩ = false := ⟨h.frozen 0, h.frozen 1, h.frozen 2⟩
/-- a struct of three cells stored -/
theorem Cls.put3 {W X : World} {B N : Nat} {t : TypeId} {a b c : Value} (h : Cls W B t #[a, b, c]) (u v x : Value) (hb : Below N X W) (hN : N ≤ B) :
    Cls (((W.setCell ⟨B, 0, none⟩ u).setCell ⟨B, 1, none⟩ v).setCell ⟨B, 2, none⟩ x) B t #[u, v, x] ∧ Below N X (((W.setCell ⟨B, 0, none⟩ u).setCell ⟨B, 1, none⟩ v).setCell ⟨B, 2, none⟩ x) := by
  refine ⟨((h.set 0 u).set 1 v).set 2 x, ?_⟩
  exact ((hb.setCell (p := ⟨B, 0, none⟩) hN u).setCell (p := ⟨B, 1, none⟩) hN v).setCell (p := ⟨B, 2, none⟩) hN x
theorem put3_bl (W : World) (B : Nat) (u v x : Value) {N : Nat} (hN : N ≤ B) : Below N W (((W.setCell ⟨B, 0, none⟩ u).setCell ⟨B, 1, none⟩ v).setCell ⟨B, 2, none⟩ x) :=
  (((Below.refl N W).setCell (p := ⟨B, 0, none⟩) hN u).setCell (p := ⟨B, 1, none⟩) hN v).setCell (p := ⟨B, 2, none⟩) hN x
theorem put3_ot (W : World) (B : Nat) (u v x : Value) {g : Nat} (h : g ≠ B) : (((W.setCell ⟨B, 0, none⟩ u).setCell ⟨B, 1, none⟩ v).setCell ⟨B, 2, none⟩ x).heap[g]? = W.heap[g]? := by
  rw [Below.heap_setCell _ _ _ g h, Below.heap_setCell _ _ _ g h, Below.heap_setCell _ _ _ g h]
theorem resC {X : World} {a b : Nat} {t t' : TypeId} {u v x u' v' x' e : Value} (tmps : Array Value) (g4 : tmps[6]?.getD undef = .pointer (some ⟨a, 0, none⟩)) (g5 : tmps[7]?.getD undef = .pointer (some ⟨b, 0, none⟩)) (g6 : tmps[8]?.getD undef = e)
    (h1 : Cls X a t #[u, v, x]) (h2 : Cls X b t' #[u', v', x']) : (results Tryd.f26 tmps).run Tryd.prog X = .ok (.tuple #[.agg #[u, v, x], .agg #[u', v', x'], e]) X := by
  obtain ⟨p0, p1, p2⟩ := h1.three
  obtain ⟨q0, q1, q2⟩ := h2.three
  simp [results, Tryd.results26, go_sem, g4, g5, g6, p0, p1, p2, q0, q1, q2]
/-- a list lies apart from some blocks -/
def Away (a : Option Addr) (x : List Nat) (F : Nat → Prop) : Prop := x = [] ∨ ∀ g off s, a = some ⟨g, off, s⟩ → ¬ F g
theorem IsI.kf {F : Nat → Prop} {Y Z : World} {a : Option Addr} {x : List Nat} (h : IsI Y a x) (k : KpF F Y Z) (hw : Away a x F) : IsI Z a x := by
  rcases h with h | ⟨g, off, h1, h2, h3⟩
  · exact .inl h
  · rcases hw with hw | hw
    · exact .inl hw
    · refine .inr ⟨g, off, h1, Nat.lt_of_lt_of_le h2 k.size, fun j hj => ?_⟩
      rw [World.cell?_of_block (a := ⟨g, off + j, none⟩) (k.block g h2 (hw _ _ _ h1))]
      exact h3 j hj
theorem ra_ints2 {X : World} {v : Value} {L : List Nat} {k : Option Nat} (h : RA X 1 v L.length (intsN L) k) : ∃ a c, v = .slice a L.length c ∧ IsI X a L ∧ L.length ≤ c ∧ ∀ g off s, a = some ⟨g, off, s⟩ → k = some g := by
  rcases h.val with ⟨rfl, h0, _⟩ | ⟨g, off, c, rfl, hk, hg, hlc, _, hc⟩
  · exact ⟨none, 0, by rw [h0], .inl (List.length_eq_zero_iff.1 h0), by omega, fun _ _ _ e => by cases e⟩
  · refine ⟨_, c, rfl, .inr ⟨g, off, rfl, hg, fun j hj => ?_⟩, hlc, fun _ _ _ e => by cases e; exact hk⟩
    rw [hc _ (by omega)]
    simp [intsN, List.getD, List.getElem?_eq_getElem hj]
theorem isI_ne {Y : World} {a : Option Addr} {x : List Nat} {g : Nat} {t : TypeId} {u v z : Value} (h : IsI Y a x) (hx : 0 < x.length) (hk : Cls Y g t #[u, v, z]) (hu : ∀ n, u ≠ .int .i64 n) (hv : ∀ n, v ≠ .int .i64 n) (hz : ∀ n, z ≠ .int .i64 n) : ∀ b off s, a = some ⟨b, off, s⟩ → b ≠ g ∧ b < Y.heap.size := by
  rintro b off s rfl
  obtain ⟨b', off', e, hb, hc⟩ := h.at hx
  cases e
  refine ⟨?_, hb⟩
  rintro rfl
  have h0 := hc 0 hx
  have h1 := hk.cell (off + 0)
  rw [h0] at h1
  rcases Nat.lt_or_ge (off + 0) 3 with g | g
  · obtain g | g | g : off + 0 = 0 ∨ off + 0 = 1 ∨ off + 0 = 2 := by omega
    · rw [g] at h1; exact hu _ (by simpa using h1.symm)
    · rw [g] at h1; exact hv _ (by simpa using h1.symm)
    · rw [g] at h1; exact hz _ (by simpa using h1.symm)
  · rw [Array.getElem?_eq_none (by simpa using g)] at h1; cases h1
theorem KpF.put3 (W : World) (B : Nat) (u v x : Value) {F : Nat → Prop} (h : F B) : KpF F W (((W.setCell ⟨B, 0, none⟩ u).setCell ⟨B, 1, none⟩ v).setCell ⟨B, 2, none⟩ x) :=
  ((KpF.set W ⟨B, 0, none⟩ u h).trans (KpF.set _ ⟨B, 1, none⟩ v h) (fun _ _ e => e)).trans (KpF.set _ ⟨B, 2, none⟩ x h) (fun _ _ e => e)
set_option maxRecDepth 100000 in
set_option maxHeartbeats 8000000 in
theorem cutBoth_at (f : Nat) (cut : List Int → List Nat) (a0 : Option Addr) (c0 : Nat) (l : List Int) (b0 : Option Addr) (d0 : Nat) (m : List Int) (w : World) (ef : ∀ args w, (callFunc f args).run Tryd.prog w = .ok (.enter f args) w) (hl : CutF f cut w a0 c0 l) (hm : CutF f cut w b0 d0 m) (hB : IsB w a0 c0 l) (hB' : IsB w b0 d0 m) :
    Calls Tryd.prog 26 #[.slice a0 l.length c0, .slice b0 m.length d0, .func (.func f) #[] #[]] w fun y w' => Below w.heap.size w w' ∧
      ((¬ ((cut l).length ≤ 2049 ∧ (cut m).length ≤ 2049) ∧ y = .returned (.tuple #[.agg #[.slice none 0 0, .slice none 0 0, .slice none 0 0], .agg #[.slice none 0 0, .slice none 0 0, .slice none 0 0], .int .i64 190])) ∨
       ((cut l).length ≤ 2049 ∧ (cut m).length ≤ 2049 ∧ ∃ a1 c1 a2 c2 a3 c3 a4 c4, y = .returned (.tuple #[.agg #[.slice a0 l.length c0, .slice a1 (cut l).length c1, .slice a2 (numP [] (cutP l (cut l))).length c2], .agg #[.slice b0 m.length d0, .slice a3 (cut m).length c3, .slice a4 (numP (knoP [] (cutP l (cut l))) (cutP m (cut m))).length c4], .int .i64 0]) ∧
         (IsI w' a1 (cut l) ∧ IsI w' a2 (numP [] (cutP l (cut l))) ∧ (numP [] (cutP l (cut l))).length ≤ c2) ∧ (IsI w' a3 (cut m) ∧ IsI w' a4 (numP (knoP [] (cutP l (cut l))) (cutP m (cut m))) ∧ (numP (knoP [] (cutP l (cut l))) (cutP m (cut m))).length ≤ c4))) := by
  have HL := hide hl
  have HM := hide hm
  have HB1 := hide hB
  have HB2 := hide hB'
  clear hl hm hB hB'
  have k6 := Cls.new w 62 #[.slice none 0 0, .slice none 0 0, .slice none 0 0]
  have x1 := (Below.refl w.heap.size w).alloc (Nat.le_refl _) (.cells #[.slice none 0 0, .slice none 0 0, .slice none 0 0] 62)
  have k6' := k6.alloc (.cells #[.slice none 0 0, .slice none 0 0, .slice none 0 0] 62)
  have k7 := Cls.new (w.alloc (.cells #[.slice none 0 0, .slice none 0 0, .slice none 0 0] 62)) 62 #[.slice none 0 0, .slice none 0 0, .slice none 0 0]
  have x2 := x1.alloc x1.size (.cells #[.slice none 0 0, .slice none 0 0, .slice none 0 0] 62)
  have HX2 := hide x2
  have HK6 := hide k6'
  have HK7 := hide k7
  clear k6 k7 k6' x1 x2
  go_enter Tryd.func26, Tryd.ntmps26
  go_wp2_with fail
  obtain ⟨g6, hg6⟩ : ∃ g6, g6 = w.heap.size := ⟨_, rfl⟩
  rw [World.size_alloc, ← hg6] at HK7
  rw [← hg6] at HK6 ⊢
  have HG := hide hg6
  clear hg6
  generalize ((w.alloc (.cells #[.slice none 0 0, .slice none 0 0, .slice none 0 0] 62)).alloc (.cells #[.slice none 0 0, .slice none 0 0, .slice none 0 0] 62)) = w2 at *
  refine ((unhide HL).call w2 (unhide HX2)).mono ?_
  rintro y w3 ⟨a1, n1, c1, rfl, hb3, h3⟩
  dsimp only
  have HX3 := hide ((unhide HX2).trans (hb3.mono (unhide HX2).size))
  have HK6 := hide ((unhide HK6).below hb3 (unhide HK6).lt)
  have HK7 := hide ((unhide HK7).below hb3 (unhide HK7).lt)
  have HA1 := hide h3
  clear hb3 h3 HX2
  by_cases hA : (cut l).length ≤ 2049
  · rw [decide_eq_true hA]
    go_wp2_with fail
    refine ((unhide HM).call w3 (unhide HX3)).mono ?_
    rintro y w4 ⟨a3, n3, c3, rfl, hb4, h4⟩
    dsimp only
    have HX4 := hide ((unhide HX3).trans (hb4.mono (unhide HX3).size))
    have K6 := (unhide HK6).below hb4 (unhide HK6).lt
    have K7 := (unhide HK7).below hb4 (unhide HK7).lt
    obtain ⟨e1, i1, l1⟩ := unhide HA1 hA
    have i1' := i1.below hb4 (Nat.le_refl _)
    have HA3 := hide h4
    clear hb4 h4 HX3 HK6 HK7 HA1 i1
    subst e1
    by_cases hC : (cut m).length ≤ 2049
    · obtain ⟨e3, i3, l3⟩ := unhide HA3 hC
      subst e3
      rw [decide_eq_true hC]
      clear HA3
      have nS : ∀ (x : Option Addr) (y z : Nat) (n : Int), Value.slice x y z ≠ .int .i64 n := fun _ _ _ _ e => by cases e
      have p1 := (unhide HL).ok.pos
      have p3 := (unhide HM).ok.pos
      have n16 := isI_ne i1' p1 K6 (nS _ _ _) (nS _ _ _) (nS _ _ _)
      have n17 := isI_ne i1' p1 K7 (nS _ _ _) (nS _ _ _) (nS _ _ _)
      have n36 := isI_ne i3 p3 K6 (nS _ _ _) (nS _ _ _) (nS _ _ _)
      have n37 := isI_ne i3 p3 K7 (nS _ _ _) (nS _ _ _) (nS _ _ _)
      have RM := run_makeMap (P := Tryd.prog) 81 w4
      have z6 := K6.lt
      have z7 := K7.lt
      have b5 : Below w4.heap.size w4 (w4.alloc (.map #[] 0)) := (Below.refl _ w4).alloc (Nat.le_refl _) _
      have kn5 := IsKn.new w4
      have zw : w.heap.size = g6 := (unhide HG).symm
      have X5 : Below w.heap.size w (w4.alloc (.map #[] 0)) := (unhide HX4).trans (b5.mono (unhide HX4).size)
      have s5 : (w4.alloc (.map #[] 0)).heap.size = w4.heap.size + 1 := by simp
      obtain ⟨r, hr⟩ : ∃ r, r = w4.heap.size := ⟨_, rfl⟩
      rw [← hr] at kn5 RM
      have K6' := K6.same (b5.block _ z6)
      have K7' := K7.same (b5.block _ z7)
      have i15 := i1'.below b5 (Nat.le_refl _)
      have i35 := i3.below b5 (Nat.le_refl _)
      -- both lists lie apart from what is written from here on
      have aw1 : Away a1 (cut l) (fun k => k = g6 ∨ k = g6 + 1 ∨ k = r) := .inr fun g off s e => by
        have := n16 _ _ _ e; have := n17 _ _ _ e; rintro (h | h | h) <;> omega
      have aw3 : Away a3 (cut m) (fun k => k = g6 ∨ k = g6 + 1 ∨ k = r) := .inr fun g off s e => by
        have := n36 _ _ _ e; have := n37 _ _ _ e; rintro (h | h | h) <;> omega
      have HB5 : ∀ X, KpF (fun k => k = g6 ∨ k = g6 + 1 ∨ k = r) (w4.alloc (.map #[] 0)) X → Below w.heap.size w X := fun X hX => X5.trans (hX.below X5.size fun k hk => by omega)
      clear n16 n17 n36 n37 K6 K7 X5 b5 i1' i3 nS p1 p3 HX4
      generalize w4.alloc (.map #[] 0) = w5 at *
      have hN1 := numbered_at a0 c0 l a1 c1 (cut l) r [] w5 (fun X hX => (unhide HB1).below (HB5 X (hX.mono fun k _ e => .inr (.inr e))) (Nat.le_refl _)) (fun X hX => i15.kf (hX.mono fun k _ e => .inr (.inr e)) aw1) kn5 (unhide HL).ok (by omega)
      have HN1 := hide hN1
      have HAW := hide (And.intro aw1 aw3)
      have HKS := hide (And.intro K6' K7')
      have HII := hide (And.intro i15 i35)
      have HBB := hide HB5
      have HZ : Hid (g6 < w5.heap.size ∧ g6 + 1 < w5.heap.size ∧ r < w5.heap.size ∧ g6 + 1 < r) := hide (by omega)
      have HLN := hide (And.intro l1 l3)
      clear hN1 aw1 aw3 K6' K7' i15 i35 HB5 kn5 z6 z7 zw s5 hr l1 l3
      go_wp2_with fail
      refine (unhide HN1).mono ?_
      rintro y w6 ⟨v1, rfl, nb1⟩
      dsimp only
      clear HN1 RM
      obtain ⟨k1, ra1, hk1⟩ := nb1.row
      have len1 : (cutP l (cut l)).length = (numP [] (cutP l (cut l))).length := by simp [numP]
      rw [len1] at ra1
      obtain ⟨a2, c2, rfl, i2, l2, o2⟩ := ra_ints2 ra1
      have f6 : KpF (fun k => k = g6 ∨ k = g6 + 1 ∨ k = r) w5 w6 := nb1.f.mono fun k _ e => .inr (.inr e)
      have aw2 : Away a2 (numP [] (cutP l (cut l))) (fun k => k = g6 ∨ k = g6 + 1 ∨ k = r) := .inr fun g off s e => by
        have := hk1 _ (o2 _ _ _ e); have := unhide HZ; rintro (h | h | h) <;> omega
      have k66 := (unhide HKS).1.kpf nb1.f (by have := unhide HZ; omega)
      have k76 := (unhide HKS).2.kpf nb1.f (by have := unhide HZ; omega)
      obtain ⟨q0, q1, q2⟩ := k66.three
      obtain ⟨s0, s1, s2⟩ := k66.fro3
      have kn6 := nb1.m
      have HNX := hide (show (numP [] (cutP l (cut l))) = (numP [] (cutP l (cut l))) from rfl)
      have F7 := KpF.put3 w6 g6 (.slice a0 l.length c0) (.slice a1 (cut l).length c1) (.slice a2 (numP [] (cutP l (cut l))).length c2) (F := fun k => k = g6 ∨ k = g6 + 1 ∨ k = r) (.inl rfl)
      have k67 := (k66.put3 (.slice a0 l.length c0) (.slice a1 (cut l).length c1) (.slice a2 (numP [] (cutP l (cut l))).length c2) (Below.refl 0 w6) (Nat.zero_le _)).1
      have k77 := k76.same (put3_ot w6 g6 (.slice a0 l.length c0) (.slice a1 (cut l).length c1) (.slice a2 (numP [] (cutP l (cut l))).length c2) (by omega))
      have kn7 : IsKn _ r (knoP [] (cutP l (cut l))) := kn6.same (put3_ot w6 g6 (.slice a0 l.length c0) (.slice a1 (cut l).length c1) (.slice a2 (numP [] (cutP l (cut l))).length c2) (by have := unhide HZ; omega))
      have i27 := i2.kf F7 aw2
      have F57 := f6.trans F7 (fun _ _ e => e)
      have i17 := (unhide HII).1.kf F57 (unhide HAW).1
      have i37 := (unhide HII).2.kf F57 (unhide HAW).2
      have lenN : (cutP l (cut l)).length = (cut l).length - 1 := cutP_len l (cut l)
      clear k66 k76 kn6 F7 f6 i2 ra1 nb1 hk1 o2
      go_wp2_with fail
      generalize ((w6.setCell ⟨g6, 0, none⟩ (.slice a0 l.length c0)).setCell ⟨g6, 1, none⟩ (.slice a1 (cut l).length c1)).setCell ⟨g6, 2, none⟩ (.slice a2 (numP [] (cutP l (cut l))).length c2) = w7 at *
      clear q0 q1 q2 s0 s1 s2
      have HN2 := hide (numbered_at b0 d0 m a3 c3 (cut m) r (knoP [] (cutP l (cut l))) w7 (fun X hX => (unhide HB2).below (unhide HBB X (F57.trans (hX.mono fun k _ e => .inr (.inr e)) (fun _ _ e => e))) (Nat.le_refl _)) (fun X hX => i37.kf (hX.mono fun k _ e => .inr (.inr e)) (unhide HAW).2) kn7 (unhide HM).ok (by omega))
      refine (unhide HN2).mono ?_
      rintro y w8 ⟨v2, rfl, nb2⟩
      dsimp only
      clear HN2 kn7
      obtain ⟨k2, ra2, hk2⟩ := nb2.row
      have len2 : (cutP m (cut m)).length = (numP (knoP [] (cutP l (cut l))) (cutP m (cut m))).length := by simp [numP]
      rw [len2] at ra2
      obtain ⟨a4, c4, rfl, i4, l4, o4⟩ := ra_ints2 ra2
      have s57 := F57.size
      have F8 : KpF (fun k => k = g6 ∨ k = g6 + 1 ∨ k = r) w7 w8 := nb2.f.mono fun k _ e => .inr (.inr e)
      have aw4 : Away a4 (numP (knoP [] (cutP l (cut l))) (cutP m (cut m))) (fun k => k = g6 ∨ k = g6 + 1 ∨ k = r) := .inr fun g off s e => by
        have := hk2 _ (o4 _ _ _ e); have := unhide HZ; rintro (h | h | h) <;> omega
      have k68 := k67.kpf nb2.f (by have := unhide HZ; omega)
      have k78 := k77.kpf nb2.f (by have := unhide HZ; omega)
      obtain ⟨q0, q1, q2⟩ := k78.three
      obtain ⟨s0, s1, s2⟩ := k78.fro3
      have F9 := KpF.put3 w8 (g6 + 1) (.slice b0 m.length d0) (.slice a3 (cut m).length c3) (.slice a4 (numP (knoP [] (cutP l (cut l))) (cutP m (cut m))).length c4) (F := fun k => k = g6 ∨ k = g6 + 1 ∨ k = r) (.inr (.inl rfl))
      have k79 := (k78.put3 (.slice b0 m.length d0) (.slice a3 (cut m).length c3) (.slice a4 (numP (knoP [] (cutP l (cut l))) (cutP m (cut m))).length c4) (Below.refl 0 w8) (Nat.zero_le _)).1
      have k69 := k68.same (put3_ot w8 (g6 + 1) (.slice b0 m.length d0) (.slice a3 (cut m).length c3) (.slice a4 (numP (knoP [] (cutP l (cut l))) (cutP m (cut m))).length c4) (by omega))
      have F79 := F8.trans F9 (fun _ _ e => e)
      have i19 := i17.kf F79 (unhide HAW).1
      have i29 := i27.kf F79 aw2
      have i39 := i37.kf F79 (unhide HAW).2
      have i49 := i4.kf F9 aw4
      have F59 := F57.trans F79 (fun _ _ e => e)
      clear k68 k78 F8 F9 F79 F57 i17 i27 i37 i4 ra2 nb2 hk2 o4 k67 k77
      go_wp2_with fail
      generalize ((w8.setCell ⟨g6 + 1, 0, none⟩ (.slice b0 m.length d0)).setCell ⟨g6 + 1, 1, none⟩ (.slice a3 (cut m).length c3)).setCell ⟨g6 + 1, 2, none⟩ (.slice a4 (numP (knoP [] (cutP l (cut l))) (cutP m (cut m))).length c4) = w9 at *
      clear q0 q1 q2 s0 s1 s2
      have K60 : Cls w9.drew g6 62 _ := k69
      have K70 : Cls w9.drew (g6 + 1) 62 _ := k79
      have S0 := And.intro K60.three.1 (And.intro K60.three.2.1 (And.intro K60.three.2.2 K70.three))
      have P1 := K60.put3 (.slice a0 l.length c0) (.slice a1 (cut l).length c1) (.slice a2 (numP [] (cutP l (cut l))).length c2) (Below.refl 0 _) (Nat.zero_le _)
      have K61 := P1.1
      have K71 := K70.same (put3_ot w9.drew g6 (.slice a0 l.length c0) (.slice a1 (cut l).length c1) (.slice a2 (numP [] (cutP l (cut l))).length c2) (by omega))
      have S1 := And.intro K61.three.1 (And.intro K61.three.2.1 (And.intro K61.three.2.2 K71.three))
      have P2 := K71.put3 (.slice b0 m.length d0) (.slice a3 (cut m).length c3) (.slice a4 (numP (knoP [] (cutP l (cut l))) (cutP m (cut m))).length c4) (Below.refl 0 _) (Nat.zero_le _)
      have K72 := P2.1
      have K62 := K61.same (put3_ot _ (g6 + 1) (.slice b0 m.length d0) (.slice a3 (cut m).length c3) (.slice a4 (numP (knoP [] (cutP l (cut l))) (cutP m (cut m))).length c4) (by omega))
      have S2 := And.intro K62.three.1 (And.intro K62.three.2.1 (And.intro K62.three.2.2 K72.three))
      have FD : KpF (fun k => k = g6 ∨ k = g6 + 1 ∨ k = r) w9 w9.drew := KpF.of ((Below.refl _ w9).drew)
      have FE := (FD.trans (KpF.put3 w9.drew g6 (.slice a0 l.length c0) (.slice a1 (cut l).length c1) (.slice a2 (numP [] (cutP l (cut l))).length c2) (F := fun k => k = g6 ∨ k = g6 + 1 ∨ k = r) (.inl rfl)) (fun _ _ e => e)).trans (KpF.put3 _ (g6 + 1) (.slice b0 m.length d0) (.slice a3 (cut m).length c3) (.slice a4 (numP (knoP [] (cutP l (cut l))) (cutP m (cut m))).length c4) (F := fun k => k = g6 ∨ k = g6 + 1 ∨ k = r) (.inr (.inl rfl))) (fun _ _ e => e)
      have J1 := i19.kf FE (unhide HAW).1
      have J2 := i29.kf FE aw2
      have J3 := i39.kf FE (unhide HAW).2
      have J4 := i49.kf FE aw4
      have JB := unhide HBB _ (F59.trans FE (fun _ _ e => e))
      have HJ := hide (And.intro J1 (And.intro J2 (And.intro J3 (And.intro J4 JB))))
      have HK2 := hide (And.intro K62 K72)
      obtain ⟨t0, t1, t2⟩ := K60.fro3
      obtain ⟨u0, u1, u2⟩ := K71.fro3
      clear J1 J2 J3 J4 JB K61 K62 K72 P1 P2 FD FE i19 i29 i39 i49 F59 aw2 aw4 k69 k79
      refine regionL (S := fun w' => w'.cell? ⟨g6, 0, none⟩ = some (.slice a0 l.length c0) ∧ w'.cell? ⟨g6, 1, none⟩ = some (.slice a1 (cut l).length c1) ∧ w'.cell? ⟨g6, 2, none⟩ = some (.slice a2 (numP [] (cutP l (cut l))).length c2) ∧ w'.cell? ⟨g6 + 1, 0, none⟩ = some (.slice b0 m.length d0) ∧ w'.cell? ⟨g6 + 1, 1, none⟩ = some (.slice a3 (cut m).length c3) ∧ w'.cell? ⟨g6 + 1, 2, none⟩ = some (.slice a4 (numP (knoP [] (cutP l (cut l))) (cutP m (cut m))).length c4)) (fun _ => false) (by kernel_rfl) ?_
      generalize w9.drew = v0 at *
      refine anyL_take (i := 0) (v := ?vq0) rfl (by kernel_rfl) (by kernel_rfl) (by kernel_rfl) (by kernel_rfl) (fun _ _ _ h => h) (Or.inl ⟨by rfl, ?hq0⟩) (S0) ?_
      case hq0 => (intro w hSw; (try dsimp only at hSw); go_simp) <;> with_reducible rfl
      simp only [Act.put, List.getElem_toArray, List.getElem_cons_zero, List.setIfInBounds_toArray, List.set_cons_zero, List.set_cons_succ]
      refine anyL_take (i := 1) (v := ?vq1) rfl (by kernel_rfl) (by kernel_rfl) (by kernel_rfl) (by kernel_rfl) (fun _ _ _ h => h) (Or.inl ⟨by rfl, ?hq1⟩) (S0) ?_
      case hq1 => (intro w hSw; (try dsimp only at hSw); go_simp) <;> with_reducible rfl
      simp only [Act.put, List.getElem_toArray, List.getElem_cons_zero, List.getElem_cons_succ, List.setIfInBounds_toArray, List.set_cons_zero, List.set_cons_succ]
      refine anyL_ready (rs := [2]) (by kernel_rfl) (by simp) ?_
      refine AllL.cons rfl (fun K hK => ?_) AllL.nil
      go_simp
      refine unhide hK _ _ (fun _ => S1) ?_
      clear hK K
      refine anyL_ready (rs := [3]) (by kernel_rfl) (by simp) ?_
      refine AllL.cons rfl (fun K hK => ?_) AllL.nil
      go_simp
      refine unhide hK _ _ (fun _ => S2) ?_
      clear hK K
      refine anyL_take (i := 4) (v := ?vq2) rfl (by kernel_rfl) (by kernel_rfl) (by kernel_rfl) (by kernel_rfl) (fun _ _ _ h => h) (Or.inl ⟨by rfl, ?hq2⟩) (S2) ?_
      case hq2 => (intro w hSw; (try dsimp only at hSw); go_simp) <;> with_reducible rfl
      simp only [Act.put, List.getElem_toArray, List.getElem_cons_zero, List.getElem_cons_succ, List.setIfInBounds_toArray, List.set_cons_zero, List.set_cons_succ]
      refine anyL_done (by kernel_rfl) ?_ _
      go_wp2_with fail
      exact bodyPost_ret (resC _ rfl rfl rfl (unhide HK2).1 (unhide HK2).2) rfl ⟨(unhide HJ).2.2.2.2, .inr ⟨hA, hC, a1, c1, a2, c2, a3, c3, a4, c4, rfl, ⟨(unhide HJ).1, (unhide HJ).2.1, l2⟩, (unhide HJ).2.2.1, (unhide HJ).2.2.2.1, l4⟩⟩
    · rw [decide_eq_false hC]
      obtain ⟨p0, p1, p2⟩ := K6.three
      obtain ⟨q0, q1, q2⟩ := K7.three
      obtain ⟨r0, r1, r2⟩ := K6.fro3
      obtain ⟨s0, s1, s2⟩ := K7.fro3
      clear i1' l1 HA3
      go_wp2_with fail
      have Z1 := put3_bl w4 g6 (.slice none 0 0) (.slice none 0 0) (.slice none 0 0) (Nat.le_refl _)
      obtain ⟨Z6, B6⟩ := K6.put3 (.slice none 0 0) (.slice none 0 0) (.slice none 0 0) (unhide HX4) (by rw [unhide HG]; exact Nat.le_refl _)
      have Z7 := K7.same (put3_ot w4 g6 (.slice none 0 0) (.slice none 0 0) (.slice none 0 0) (by omega))
      obtain ⟨Y7, B7⟩ := Z7.put3 (.slice none 0 0) (.slice none 0 0) (.slice none 0 0) B6 (by rw [unhide HG]; omega)
      have Y6 := Z6.same (put3_ot _ (g6 + 1) (.slice none 0 0) (.slice none 0 0) (.slice none 0 0) (by omega))
      exact bodyPost_ret (resC _ rfl rfl rfl Y6 Y7) rfl ⟨B7, .inl ⟨fun h => hC h.2, rfl⟩⟩
  · rw [decide_eq_false hA]
    go_wp2_with fail
    refine ((unhide HM).call w3 (unhide HX3)).mono ?_
    rintro y w4 ⟨a2, n2, c2, rfl, hb4, h4⟩
    dsimp only
    have HX4 := hide ((unhide HX3).trans (hb4.mono (unhide HX3).size))
    have K6 := (unhide HK6).below hb4 (unhide HK6).lt
    have K7 := (unhide HK7).below hb4 (unhide HK7).lt
    clear hb4 h4 HX3 HK6 HK7
    obtain ⟨p0, p1, p2⟩ := K6.three
    obtain ⟨q0, q1, q2⟩ := K7.three
    obtain ⟨r0, r1, r2⟩ := K6.fro3
    obtain ⟨s0, s1, s2⟩ := K7.fro3
    go_wp2_with fail
    have Z1 := put3_bl w4 g6 (.slice none 0 0) (.slice none 0 0) (.slice none 0 0) (Nat.le_refl _)
    obtain ⟨Z6, B6⟩ := K6.put3 (.slice none 0 0) (.slice none 0 0) (.slice none 0 0) (unhide HX4) (by rw [unhide HG]; exact Nat.le_refl _)
    have Z7 := K7.same (put3_ot w4 g6 (.slice none 0 0) (.slice none 0 0) (.slice none 0 0) (by omega))
    obtain ⟨Y7, B7⟩ := Z7.put3 (.slice none 0 0) (.slice none 0 0) (.slice none 0 0) B6 (by rw [unhide HG]; omega)
    have Y6 := Z6.same (put3_ot _ (g6 + 1) (.slice none 0 0) (.slice none 0 0) (.slice none 0 0) (by omega))
    exact bodyPost_ret (resC _ rfl rfl rfl Y6 Y7) rfl ⟨B7, .inl ⟨fun h => hA h.1, rfl⟩⟩
end Go.Proofs.YtkdnanlgkedjgabDoor
end

section
namespace Go.Proofs.YtkdnanlgkedjgabDoor
open Go.ChangeShapes Go.WideShapes Go.ChangeAt Go.RowKit
attribute [local go_sem] Oper.semAt_some

/-- where the loop over the runs stands: ahead of the next run, which ends in both lists -/
theorem chs_round {nx ny xc yc : List Nat} {m : List Int} {k : Nat} (hk : k < (runsL nx ny).length) :
    (chsR xc yc m ((runsL nx ny).take k)).1 ≤ ((runsL nx ny).getD k (0, 0, 0)).1 ∧ (chsR xc yc m ((runsL nx ny).take k)).2.1 ≤ ((runsL nx ny).getD k (0, 0, 0)).2.1 ∧
    ((runsL nx ny).getD k (0, 0, 0)).1 + ((runsL nx ny).getD k (0, 0, 0)).2.2 ≤ nx.length ∧ ((runsL nx ny).getD k (0, 0, 0)).2.1 + ((runsL nx ny).getD k (0, 0, 0)).2.2 ≤ ny.length := by
  have h := chsR_at (x := nx) (y := ny) xc yc m (runsL nx ny) 0 0 [] (runs_ok nx ny) k (by omega)
  have e : (runsL nx ny).drop k = (runsL nx ny).getD k (0, 0, 0) :: (runsL nx ny).drop (k + 1) := by
    rw [List.drop_eq_getElem_cons hk]; simp [List.getD, List.getElem?_eq_getElem hk]
  rw [e] at h
  exact ⟨h.1, h.2.1, h.2.2.1, h.2.2.2.1⟩
def pcV (a0 : Option Addr) (n c0 : Nat) (a1 : Option Addr) (n1 c1 : Nat) (a2 : Option Addr) (n2 c2 : Nat) : Value := .agg #[.slice a0 n c0, .slice a1 n1 c1, .slice a2 n2 c2]
structure ChI (w2 X : World) (cs : List Dop) (v : Value) : Prop where
  b : Below w2.heap.size w2 X
  r : X.ownsRow w2.heap.size 57 3 v cs.length (opsV cs)
set_option maxRecDepth 100000 in
set_option maxHeartbeats 8000000 in
theorem changed_at (a0 : Option Addr) (c0 : Nat) (l : List Int) (b0 : Option Addr) (d0' : Nat) (m : List Int) (a1 a2 a3 a4 : Option Addr) (c1 c2 c3 c4 : Nat) (xc nx yc ny : List Nat) (w : World)
    (hB : IsB w b0 d0' m) (i1 : IsI w a1 xc) (i2 : IsI w a2 nx) (i3 : IsI w a3 yc) (i4 : IsI w a4 ny) (ox : OkCut l xc) (oy : OkCut m yc) (lx : nx.length + 1 = xc.length) (ly : ny.length + 1 = yc.length) (k2 : nx.length ≤ c2) (k4 : ny.length ≤ c4) (mx : nx.length ≤ 2048) (my : ny.length ≤ 2048) :
    Calls Tryd.prog 48 #[pcV a0 l.length c0 a1 xc.length c1 a2 nx.length c2, pcV b0 m.length d0' a3 yc.length c3 a4 ny.length c4] w fun y w' => ∃ v, y = .returned v ∧ Below w.heap.size w w' ∧
      w'.ownsRow w.heap.size 57 3 v (chsR xc yc m (runsL nx ny)).2.2.length (opsV (chsR xc yc m (runsL nx ny)).2.2) := by
  have b1 := (Below.refl w.heap.size w).alloc (Nat.le_refl _) (.cells #[.slice a0 l.length c0, .slice a1 xc.length c1, .slice a2 nx.length c2] 62)
  have b2 := b1.alloc b1.size (.cells #[.slice b0 m.length d0', .slice a3 yc.length c3, .slice a4 ny.length c4] 62)
  have q2 := (Cls.new w 62 #[.slice a0 l.length c0, .slice a1 xc.length c1, .slice a2 nx.length c2]).alloc (.cells #[.slice b0 m.length d0', .slice a3 yc.length c3, .slice a4 ny.length c4] 62)
  have q3 := Cls.new (w.alloc (.cells #[.slice a0 l.length c0, .slice a1 xc.length c1, .slice a2 nx.length c2] 62)) 62 #[.slice b0 m.length d0', .slice a3 yc.length c3, .slice a4 ny.length c4]
  simp only [World.size_alloc] at q3
  unfold pcV
  have HC := hide (common_at a2 c2 nx a4 c4 ny _ (i2.below b2 (Nat.le_refl _)) (i4.below b2 (Nat.le_refl _)) k2 k4 mx my)
  have HB := hide b2
  have HI := hide (And.intro hB (And.intro i1 i3))
  have HO := hide (And.intro ox oy)
  obtain ⟨x0, x1, x2⟩ := q2.three
  obtain ⟨y0, y1, y2⟩ := q3.three
  have HQ := hide (And.intro q2 q3)
  clear b1 b2 q2 q3 hB i1 i2 i3 i4 ox oy
  go_enter Tryd.func48, Tryd.ntmps48
  go_wp2_with fail
  refine (unhide HC).mono ?_
  rintro e w3 ⟨vR, kR, rfl, hR, hb3⟩
  dsimp only
  obtain ⟨aR, cR, rfl, hru⟩ := ra_runs hR
  obtain ⟨g2, hg2⟩ : ∃ g2, g2 = w.heap.size := ⟨_, rfl⟩
  have HRU := hide hru
  have HB3 := hide ((unhide HB).trans (hb3.mono (unhide HB).size))
  have HQ2 := hide ((unhide HQ).1.below hb3 (unhide HQ).1.lt)
  have HQ3 := hide ((unhide HQ).2.below hb3 (unhide HQ).2.lt)
  have HS := hide (show w.heap.size ≤ w3.heap.size from (unhide HB3).size)
  clear HC hR hb3 hru x0 x1 x2 y0 y1 y2 HQ HB
  rw [← hg2] at HQ2 HQ3 ⊢
  clear hg2
  have H0 : Hid (ChI w3 w3 (chsR xc yc m ((runsL nx ny).take 0)).2.2 (.slice none 0 0)) := hide ⟨Below.refl _ _, World.ownsRow_nil _ _ _ _⟩
  have hLl := runs_len nx ny
  go_wp2_with fail
  go_loopw [5, 6, 7, 9, 10, 17] (fun v5 v6 v7 v9 v10 v17 wx => (∃ z, v9 = z) ∧ (∃ z, v10 = z) ∧ ∃ k : Nat, v17 = .int .i64 (k : Int) ∧ k ≤ (runsL nx ny).length ∧ v6 = .int .i64 ((chsR xc yc m ((runsL nx ny).take k)).1 : Int) ∧ v7 = .int .i64 ((chsR xc yc m ((runsL nx ny).take k)).2.1 : Int) ∧ Hid (ChI w3 wx (chsR xc yc m ((runsL nx ny).take k)).2.2 v5)) (fun _ _ _ _ _ v17 _ => (runsL nx ny).length - (intOf v17).toNat)
  case atStart => exact ⟨⟨_, rfl⟩, ⟨_, rfl⟩, 0, rfl, Nat.zero_le _, rfl, rfl, H0⟩
  case round =>
    clear H0
    obtain ⟨⟨z1, rfl⟩, ⟨z2, rfl⟩, k, rfl, hk, rfl, rfl, HI2⟩ := hrel
    by_cases h1 : k < (runsL nx ny).length
    · have t1 : decide ((k : Int) < ((runsL nx ny).length : Int)) = true := decide_eq_true (by omega)
      have f1 : (k : Int) < ((runsL nx ny).length : Int) := by omega
      have hbx := (unhide HI2).b
      obtain ⟨gr, offr, rfl, hgr, e0, e1, e2⟩ := ((unhide HRU).below hbx (Nat.le_refl _)).at h1
      have hrd := chs_round (xc := xc) (yc := yc) (m := m) h1
      have hst := chsR_take xc yc m (runsL nx ny) h1
      have hcl := chsR_len xc yc m (runsL nx ny) k hk
      obtain ⟨i1, i3⟩ := (unhide HI).2
      have hB := (unhide HI).1
      have HBW := hide hbx
      have XA : Below w.heap.size w wr := (unhide HB3).trans (hbx.mono (unhide HB3).size)
      generalize (runsL nx ny).getD k (0, 0, 0) = rn at *
      generalize chsR xc yc m ((runsL nx ny).take k) = st at *
      obtain ⟨p, q, n⟩ := rn
      obtain ⟨i, j, cs⟩ := st
      dsimp only at hrd hst hcl e0 e1 e2 ⊢
      obtain ⟨r1, r2, r3, r4⟩ := hrd
      obtain ⟨ga, offa, ea, hga, cx⟩ := (i1.below XA (Nat.le_refl _)).at (k := i) (by omega)
      obtain ⟨gy, offy, ey, hgy, cy⟩ := (i3.below XA (Nat.le_refl _)).at (k := j) (by omega)
      have e1c := cx i (by omega)
      have e2c := cx p (by omega)
      have e3c := cy j (by omega)
      have e4c := cy q (by omega)
      have m1 := (unhide HO).2.le (show j ≤ q from r2) (by omega)
      have m2 := (unhide HO).2.at_le (show q < yc.length by omega)
      have hml := hB.1
      have HE6 : Hid (Value.int .i64 ((p : Int) + (n : Int)) = .int .i64 ((chsR xc yc m ((runsL nx ny).take (k + 1))).1 : Int)) := hide (by rw [hst]; simp [chR])
      have HE7 : Hid (Value.int .i64 ((q : Int) + (n : Int)) = .int .i64 ((chsR xc yc m ((runsL nx ny).take (k + 1))).2.1 : Int)) := hide (by rw [hst]; simp [chR])
      have HST := hide hst
      -- the round's box
      have bx := (Below.refl wr.heap.size wr).alloc (Nat.le_refl _) (.cells #[.int .i64 (p : Int), .int .i64 (q : Int), .int .i64 (n : Int)] 69)
      have dd := (Cls.new wr 69 #[.int .i64 (p : Int), .int .i64 (q : Int), .int .i64 (n : Int)]).three
      have hol : ∀ {g o : Nat} {x : Value}, wr.cell? ⟨g, o, none⟩ = some x → (wr.alloc (.cells #[.int .i64 (p : Int), .int .i64 (q : Int), .int .i64 (n : Int)] 69)).cell? ⟨g, o, none⟩ = some x := fun h => (bx.cell (p := ⟨_, _, none⟩) (cell_lt h)).trans h
      have x1 := hol ((unhide HQ2).below hbx (unhide HQ2).lt).three.2.1
      have y0 := hol ((unhide HQ3).below hbx (unhide HQ3).lt).three.1
      have y1 := hol ((unhide HQ3).below hbx (unhide HQ3).lt).three.2.1
      have z1' := hol e1c
      have z2' := hol e2c
      have z3' := hol e3c
      have z4' := hol e4c
      obtain ⟨d0, d1, d2⟩ := dd
      obtain ⟨gb, hgb⟩ : ∃ gb, gb = wr.heap.size := ⟨_, rfl⟩
      rw [← hgb] at d0 d1 d2
      subst ea ey
      have l1 := (unhide HQ2).lt
      have hbz := hbx.size
      have hg1 := cell_lt e1c
      have hrow := (unhide HI2).r
      have hlt : ∀ G, u5.ownBlock = some G → G < gb ∧ w3.heap.size ≤ G := fun G e => by
        have := hrow.lt G e
        omega
      have ha3 : ga < w3.heap.size := by
        obtain ⟨_, _, e, h, _⟩ := (i1.below (unhide HB3) (Nat.le_refl _)).at (k := i) (by omega)
        cases e; exact h
      have HNE : Hid (¬ u5.ownBlock = some g2 ∧ ¬ u5.ownBlock = some gb ∧ ¬ u5.ownBlock = some ga) := hide ⟨fun e => by have := hlt _ e; omega, fun e => by have := hlt _ e; omega, fun e => by have := hlt _ e; omega⟩
      obtain ⟨A, hA⟩ : ∃ A, (if d0' = yc.getD j 0 then b0 else b0.map (·.add (yc.getD j 0))) = A := ⟨_, rfl⟩
      obtain ⟨tx, htx⟩ : ∃ tx, tx = (m.drop (yc.getD j 0)).take (yc.getD q 0 - yc.getD j 0) := ⟨_, rfl⟩
      have HBT : ∀ X, Below w.heap.size w X → IsB X A (d0' - yc.getD j 0) tx := fun X hX => by rw [htx, ← hA]; exact ((hB.below hX (Nat.le_refl _)).loD (n := yc.getD j 0)).takeD (n := yc.getD q 0 - yc.getD j 0)
      have htl : yc.getD q 0 - yc.getD j 0 = tx.length := by rw [htx, List.length_take, List.length_drop]; omega
      have HCT : Hid ((i < p ∨ j < q) → (chsR xc yc m ((runsL nx ny).take (k + 1))).2.2 = cs ++ [⟨(xc.getD i 0 : Int), (xc.getD p 0 : Int), tx⟩]) := hide fun g => by rw [hst]; unfold chR; dsimp only; rw [if_pos g, htx]
      have HCF : Hid (¬ (i < p ∨ j < q) → (chsR xc yc m ((runsL nx ny).take (k + 1))).2.2 = cs) := hide fun g => by rw [hst]; unfold chR; dsimp only; rw [if_neg g, List.append_nil]
      have XB := XA.trans (bx.mono XA.size)
      have HKC : Hid (∀ nn : Nat, (convert 22 9 (.slice A tx.length (d0' - yc.getD j 0))).run Tryd.prog ((wr.alloc (.cells #[.int .i64 (p : Int), .int .i64 (q : Int), .int .i64 (n : Int)] 69)).drewN nn) = .ok (.string (strOfNums tx)) ((wr.alloc (.cells #[.int .i64 (p : Int), .int .i64 (q : Int), .int .i64 (n : Int)] 69)).drewN nn)) := hide fun nn => str_bs _ A _ tx (HBT _ (bdrN XB nn)).2.2.1
      have HW0 : Hid (∀ Y : World, Below (wr.alloc (.cells #[.int .i64 (p : Int), .int .i64 (q : Int), .int .i64 (n : Int)] 69)).heap.size (wr.alloc (.cells #[.int .i64 (p : Int), .int .i64 (q : Int), .int .i64 (n : Int)] 69)) Y → Below w3.heap.size w3 Y ∧ Y.ownsRow w3.heap.size 57 3 u5 cs.length (opsV cs)) := hide fun Y hY =>
        ⟨(hbx.trans (bx.mono hbz)).trans (hY.mono (by simp; omega)), rowD_below (rowD_below hrow bx (Nat.le_refl _)) hY (Nat.le_refl _)⟩
      have f2 : (j : Int) < (yc.length : Int) := by omega
      have f3 : (q : Int) < (yc.length : Int) := by omega
      have f4 : (0 : Int) ≤ (j : Int) := by omega
      have f5 : (0 : Int) ≤ (q : Int) := by omega
      have f6 : (i : Int) < (xc.length : Int) := by omega
      have f7 : (p : Int) < (xc.length : Int) := by omega
      have f8 : (0 : Int) ≤ (i : Int) := by omega
      have f9 : (0 : Int) ≤ (p : Int) := by omega
      have HRB := hide (And.intro r1 (And.intro r2 (And.intro r3 r4)))
      clear hst HST htx HBT hol bx XA XB i1 i3 hB hbx hrow e1c e2c e3c e4c HI2 cx cy hgr hga hgy hbz hg1 hlt ha3 l1
      generalize xc.getD i 0 = lo2 at *
      generalize xc.getD p 0 = hi2 at *
      generalize yc.getD j 0 = lo at *
      generalize yc.getD q 0 = hi at *
      have f10 : (lo : Int) ≤ (hi : Int) := by omega
      have f11 : (hi : Int) ≤ (d0' : Int) := by omega
      have f12 : hi ≤ d0' := by omega
      have f13 : (0 : Int) ≤ (lo : Int) := by omega
      go_upto_region 6 with fail
      generalize wr.alloc (.cells #[.int .i64 (p : Int), .int .i64 (q : Int), .int .i64 (n : Int)] 69) = v0 at *
      clear e0 e1 e2
      rw [← hgb]
      clear hgb
      have HS0 : Hid (∀ Y : World, Y.heap = v0.heap → Y.cell? ⟨g2, 1, none⟩ = some (.slice (some ⟨ga, offa, none⟩) xc.length c1) ∧ Y.cell? ⟨gb, 0, none⟩ = some (.int .i64 (p : Int)) ∧ Y.cell? ⟨ga, offa + i, none⟩ = some (.int .i64 (lo2 : Int)) ∧ Y.cell? ⟨ga, offa + p, none⟩ = some (.int .i64 (hi2 : Int))) := hide fun Y hY =>
        ⟨(World.cell?_of_block (a := ⟨g2, 1, none⟩) (by rw [hY])).trans x1, (World.cell?_of_block (a := ⟨gb, 0, none⟩) (by rw [hY])).trans d0, (World.cell?_of_block (a := ⟨ga, offa + i, none⟩) (by rw [hY])).trans z1', (World.cell?_of_block (a := ⟨ga, offa + p, none⟩) (by rw [hY])).trans z2'⟩
      have KC := unhide HKC
      clear HKC x1 z1' z2'
      by_cases hip : i < p
      · have hch : i < p ∨ j < q := .inl hip
        have tA : decide ((i : Int) < (p : Int)) = true := decide_eq_true (by omega)
        have HNC := hide (unhide HCT hch)
        clear HCT HCF hch
        go_wp2_with fail
        go_quiet (fail)
        have hvs : (v0.drewN nq).drew.heap = v0.heap := drewN_heap v0 nq
        have w0 := unhide HW0 (v0.drewN nq).drew (bdrN (Below.refl _ v0) nq).drew
        generalize v0.drewN nq = v1 at *
        have S0 := unhide HS0 v1.drew hvs
        obtain ⟨G, cG, W', r1, o1, gr1, y1'⟩ := push_ch v1.drew w3.heap.size cs.length u5 (opsV cs) (lo2 : Int) (hi2 : Int) (strOfNums tx) 53 w0.2 (by clear f1 t1; omega) (by have := w0.1.size; omega)
        have S1 := S0
        have hal : ∀ {g o : Nat} {x : Value}, v1.drew.cell? ⟨g, o, none⟩ = some x → (v1.drew.alloc (.cells #[.int .i64 (lo2 : Int), .int .i64 (hi2 : Int), .string (strOfNums tx)] 57)).cell? ⟨g, o, none⟩ = some x := fun h => (World.cell?_of_block (a := ⟨_, _, none⟩) (heap_alloc_old _ _ (cell_lt h))).trans h
        have hcl2 : ∀ {g o : Nat} {x : Value}, ¬ u5.ownBlock = some g → v1.drew.cell? ⟨g, o, none⟩ = some x → W'.cell? ⟨g, o, none⟩ = some x := fun hn h => (World.cell?_of_block (a := ⟨_, _, none⟩) (gr1.block _ (cell_lt h) (fun e => hn e.symm))).trans h
        have S1 := And.intro (hal S0.1) (And.intro (hal S0.2.1) (And.intro (hal S0.2.2.1) (hal S0.2.2.2)))
        have S2 := And.intro (hcl2 (unhide HNE).1 S0.1) (And.intro (hcl2 (unhide HNE).2.1 S0.2.1) (And.intro (hcl2 (unhide HNE).2.2 S0.2.2.1) (hcl2 (unhide HNE).2.2 S0.2.2.2)))
        have D0 := hcl2 (unhide HNE).2.1 ((World.cell?_of_block (a := ⟨gb, 0, none⟩) (by rw [hvs])).trans d0)
        have D1 := hcl2 (unhide HNE).2.1 ((World.cell?_of_block (a := ⟨gb, 1, none⟩) (by rw [hvs])).trans d1)
        have D2 := hcl2 (unhide HNE).2.1 ((World.cell?_of_block (a := ⟨gb, 2, none⟩) (by rw [hvs])).trans d2)
        have R1 := hide r1
        have HNI : Hid (ChI w3 W' (chsR xc yc m ((runsL nx ny).take (k + 1))).2.2 (.slice (some ⟨G, 0, none⟩) (cs.length + 1) cG)) := hide (by
          rw [unhide HNC]
          refine ⟨w0.1.trans y1', ?_⟩
          rw [List.length_append, List.length_singleton, opsV_app, opsV_one]
          exact o1)
        clear r1 o1 gr1 y1' w0 hal hcl2 hvs d0 d1 d2 KC
        go_wp2_with fail
        refine regionL (S := fun w' => w'.cell? ⟨g2, 1, none⟩ = some (.slice (some ⟨ga, offa, none⟩) xc.length c1) ∧ w'.cell? ⟨gb, 0, none⟩ = some (.int .i64 (p : Int)) ∧ w'.cell? ⟨ga, offa + i, none⟩ = some (.int .i64 (lo2 : Int)) ∧ w'.cell? ⟨ga, offa + p, none⟩ = some (.int .i64 (hi2 : Int))) (fun _ => false) (by kernel_rfl) ?_
        generalize v1.drew = v2 at *
        refine anyL_take (i := 0) (v := ?vq0) rfl (by kernel_rfl) (by kernel_rfl) (by kernel_rfl) (by kernel_rfl) (fun _ _ _ h => h) (Or.inl ⟨by rfl, ?hq0⟩) (S0) ?_
        case hq0 => (intro w hSw; (try dsimp only at hSw); go_simp) <;> with_reducible rfl
        simp only [Act.put, List.getElem_toArray, List.getElem_cons_zero, List.setIfInBounds_toArray, List.set_cons_zero, List.set_cons_succ]
        refine anyL_take (i := 1) (v := ?vq1) rfl (by kernel_rfl) (by kernel_rfl) (by kernel_rfl) (by kernel_rfl) (fun _ _ _ h => h) (Or.inl ⟨by rfl, ?hq1⟩) (S0) ?_
        case hq1 => (intro w hSw; (try dsimp only at hSw); go_simp) <;> with_reducible rfl
        simp only [Act.put, List.getElem_toArray, List.getElem_cons_zero, List.getElem_cons_succ, List.setIfInBounds_toArray, List.set_cons_zero, List.set_cons_succ]
        refine anyL_take (i := 2) (v := ?vq2) rfl (by kernel_rfl) (by kernel_rfl) (by kernel_rfl) (by kernel_rfl) (fun _ _ _ h => h) (Or.inl ⟨by rfl, ?hq2⟩) (S0) ?_
        case hq2 => (intro w hSw; (try dsimp only at hSw); go_simp) <;> with_reducible rfl
        simp only [Act.put, List.getElem_toArray, List.getElem_cons_zero, List.getElem_cons_succ, List.setIfInBounds_toArray, List.set_cons_zero, List.set_cons_succ]
        refine anyL_take (i := 3) (v := ?vq3) rfl (by kernel_rfl) (by kernel_rfl) (by kernel_rfl) (by kernel_rfl) (fun _ _ _ h => h) (Or.inl ⟨by rfl, ?hq3⟩) (S0) ?_
        case hq3 => (intro w hSw; (try dsimp only at hSw); go_simp) <;> with_reducible rfl
        simp only [Act.put, List.getElem_toArray, List.getElem_cons_zero, List.getElem_cons_succ, List.setIfInBounds_toArray, List.set_cons_zero, List.set_cons_succ]
        refine anyL_take (i := 4) (v := ?vq4) rfl (by kernel_rfl) (by kernel_rfl) (by kernel_rfl) (by kernel_rfl) (fun _ _ _ h => h) (Or.inl ⟨by rfl, ?hq4⟩) (S0) ?_
        case hq4 => (intro w hSw; (try dsimp only at hSw); go_simp) <;> with_reducible rfl
        simp only [Act.put, List.getElem_toArray, List.getElem_cons_zero, List.getElem_cons_succ, List.setIfInBounds_toArray, List.set_cons_zero, List.set_cons_succ]
        refine anyL_take (i := 5) (v := ?vq5) rfl (by kernel_rfl) (by kernel_rfl) (by kernel_rfl) (by kernel_rfl) (fun _ _ _ h => h) (Or.inl ⟨by rfl, ?hq5⟩) (S0) ?_
        case hq5 => (intro w hSw; (try dsimp only at hSw); go_simp) <;> with_reducible rfl
        simp only [Act.put, List.getElem_toArray, List.getElem_cons_zero, List.getElem_cons_succ, List.setIfInBounds_toArray, List.set_cons_zero, List.set_cons_succ]
        refine anyL_take (i := 6) (v := ?vq6) rfl (by kernel_rfl) (by kernel_rfl) (by kernel_rfl) (by kernel_rfl) (fun _ _ _ h => h) (Or.inl ⟨by rfl, ?hq6⟩) (S0) ?_
        case hq6 => (intro w hSw; (try dsimp only at hSw); go_simp) <;> with_reducible rfl
        simp only [Act.put, List.getElem_toArray, List.getElem_cons_zero, List.getElem_cons_succ, List.setIfInBounds_toArray, List.set_cons_zero, List.set_cons_succ]
        refine anyL_take (i := 7) (v := ?vq7) rfl (by kernel_rfl) (by kernel_rfl) (by kernel_rfl) (by kernel_rfl) (fun _ _ _ h => h) (Or.inl ⟨by rfl, ?hq7⟩) (S0) ?_
        case hq7 => (intro w hSw; (try dsimp only at hSw); go_simp) <;> with_reducible rfl
        simp only [Act.put, List.getElem_toArray, List.getElem_cons_zero, List.getElem_cons_succ, List.setIfInBounds_toArray, List.set_cons_zero, List.set_cons_succ]
        refine anyL_take (i := 8) (v := ?vq8) rfl (by kernel_rfl) (by kernel_rfl) (by kernel_rfl) (by kernel_rfl) (fun _ _ _ h => h) (Or.inl ⟨by rfl, ?hq8⟩) (S0) ?_
        case hq8 => (intro w hSw; (try dsimp only at hSw); go_simp) <;> with_reducible rfl
        simp only [Act.put, List.getElem_toArray, List.getElem_cons_zero, List.getElem_cons_succ, List.setIfInBounds_toArray, List.set_cons_zero, List.set_cons_succ]
        refine anyL_take (i := 9) (v := ?vq9) rfl (by kernel_rfl) (by kernel_rfl) (by kernel_rfl) (by kernel_rfl) (fun _ _ _ h => h) (Or.inl ⟨by rfl, ?hq9⟩) (S0) ?_
        case hq9 => (intro w hSw; (try dsimp only at hSw); go_simp) <;> with_reducible rfl
        simp only [Act.put, List.getElem_toArray, List.getElem_cons_zero, List.getElem_cons_succ, List.setIfInBounds_toArray, List.set_cons_zero, List.set_cons_succ]
        refine anyL_take (i := 10) (v := ?vq10) rfl (by kernel_rfl) (by kernel_rfl) (by kernel_rfl) (by kernel_rfl) (fun _ _ _ h => h) (Or.inl ⟨by rfl, ?hq10⟩) (S0) ?_
        case hq10 => (intro w hSw; (try dsimp only at hSw); go_simp) <;> with_reducible rfl
        simp only [Act.put, List.getElem_toArray, List.getElem_cons_zero, List.getElem_cons_succ, List.setIfInBounds_toArray, List.set_cons_zero, List.set_cons_succ]
        refine anyL_take (i := 11) (v := ?vq11) rfl (by kernel_rfl) (by kernel_rfl) (by kernel_rfl) (by kernel_rfl) (fun _ _ _ h => h) (Or.inl ⟨by rfl, ?hq11⟩) (S0) ?_
        case hq11 => (intro w hSw; (try dsimp only at hSw); go_simp) <;> with_reducible rfl
        simp only [Act.put, List.getElem_toArray, List.getElem_cons_zero, List.getElem_cons_succ, List.setIfInBounds_toArray, List.set_cons_zero, List.set_cons_succ]
        refine anyL_take (i := 12) (v := ?vq12) rfl (by kernel_rfl) (by kernel_rfl) (by kernel_rfl) (by kernel_rfl) (fun _ _ _ h => h) (Or.inl ⟨by rfl, ?hq12⟩) (S0) ?_
        case hq12 => (intro w hSw; (try dsimp only at hSw); go_simp) <;> with_reducible rfl
        simp only [Act.put, List.getElem_toArray, List.getElem_cons_zero, List.getElem_cons_succ, List.setIfInBounds_toArray, List.set_cons_zero, List.set_cons_succ]
        refine anyL_take (i := 13) (v := ?vq13) rfl (by kernel_rfl) (by kernel_rfl) (by kernel_rfl) (by kernel_rfl) (fun _ _ _ h => h) (Or.inl ⟨by rfl, ?hq13⟩) (S0) ?_
        case hq13 => (intro w hSw; (try dsimp only at hSw); go_simp) <;> with_reducible rfl
        simp only [Act.put, List.getElem_toArray, List.getElem_cons_zero, List.getElem_cons_succ, List.setIfInBounds_toArray, List.set_cons_zero, List.set_cons_succ]
        refine anyL_ready (rs := [14]) (by kernel_rfl) (by simp) ?_
        refine AllL.cons rfl (fun K hK => ?_) AllL.nil
        go_simp
        refine unhide hK _ _ (fun _ => S1) ?_
        clear hK K
        refine anyL_ready (rs := [15]) (by kernel_rfl) (by simp) ?_
        refine AllL.cons rfl (fun K hK => ?_) AllL.nil
        refine step_append_knownT rfl _ _ 53 53 rfl _ _ rfl rfl _ _ (unhide R1) ?_
        go_simp
        refine unhide hK _ _ (fun _ => S2) ?_
        clear hK K
        refine anyL_take (i := 16) (v := ?vq14) rfl (by kernel_rfl) (by kernel_rfl) (by kernel_rfl) (by kernel_rfl) (fun _ _ _ h => h) (Or.inl ⟨by rfl, ?hq14⟩) (S2) ?_
        case hq14 => (intro w hSw; (try dsimp only at hSw); go_simp) <;> with_reducible rfl
        simp only [Act.put, List.getElem_toArray, List.getElem_cons_zero, List.getElem_cons_succ, List.setIfInBounds_toArray, List.set_cons_zero, List.set_cons_succ]
        refine anyL_done (by kernel_rfl) ?_ _
        go_wp2_with fail
        clear S0 S1 S2
        go_quiet (fail)
        go_wp2_with fail
        go_roundw
        case rel => exact ⟨⟨_, rfl⟩, ⟨_, rfl⟩, k + 1, by go_num, h1, unhide HE6, unhide HE7, hide ⟨(unhide HNI).b.trans (bdrN (Below.refl _ _) _), rowD_below (unhide HNI).r (bdrN (Below.refl _ _) _) (Nat.le_refl _)⟩⟩
        case measure => simp [intOf]; omega
      by_cases hjq : j < q
      · have hch : i < p ∨ j < q := .inr hjq
        have tA : decide ((i : Int) < (p : Int)) = false := decide_eq_false (by omega)
        have tB : decide ((j : Int) < (q : Int)) = true := decide_eq_true (by omega)
        have HNC := hide (unhide HCT hch)
        clear HCT HCF hch
        go_wp2_with fail
        go_quiet (fail)
        have hvs : (v0.drewN nq).drew.heap = v0.heap := drewN_heap v0 nq
        have w0 := unhide HW0 (v0.drewN nq).drew (bdrN (Below.refl _ v0) nq).drew
        generalize v0.drewN nq = v1 at *
        have S0 := unhide HS0 v1.drew hvs
        obtain ⟨G, cG, W', r1, o1, gr1, y1'⟩ := push_ch v1.drew w3.heap.size cs.length u5 (opsV cs) (lo2 : Int) (hi2 : Int) (strOfNums tx) 53 w0.2 (by clear f1 t1; omega) (by have := w0.1.size; omega)
        have S1 := S0
        have hal : ∀ {g o : Nat} {x : Value}, v1.drew.cell? ⟨g, o, none⟩ = some x → (v1.drew.alloc (.cells #[.int .i64 (lo2 : Int), .int .i64 (hi2 : Int), .string (strOfNums tx)] 57)).cell? ⟨g, o, none⟩ = some x := fun h => (World.cell?_of_block (a := ⟨_, _, none⟩) (heap_alloc_old _ _ (cell_lt h))).trans h
        have hcl2 : ∀ {g o : Nat} {x : Value}, ¬ u5.ownBlock = some g → v1.drew.cell? ⟨g, o, none⟩ = some x → W'.cell? ⟨g, o, none⟩ = some x := fun hn h => (World.cell?_of_block (a := ⟨_, _, none⟩) (gr1.block _ (cell_lt h) (fun e => hn e.symm))).trans h
        have S1 := And.intro (hal S0.1) (And.intro (hal S0.2.1) (And.intro (hal S0.2.2.1) (hal S0.2.2.2)))
        have S2 := And.intro (hcl2 (unhide HNE).1 S0.1) (And.intro (hcl2 (unhide HNE).2.1 S0.2.1) (And.intro (hcl2 (unhide HNE).2.2 S0.2.2.1) (hcl2 (unhide HNE).2.2 S0.2.2.2)))
        have D0 := hcl2 (unhide HNE).2.1 ((World.cell?_of_block (a := ⟨gb, 0, none⟩) (by rw [hvs])).trans d0)
        have D1 := hcl2 (unhide HNE).2.1 ((World.cell?_of_block (a := ⟨gb, 1, none⟩) (by rw [hvs])).trans d1)
        have D2 := hcl2 (unhide HNE).2.1 ((World.cell?_of_block (a := ⟨gb, 2, none⟩) (by rw [hvs])).trans d2)
        have R1 := hide r1
        have HNI : Hid (ChI w3 W' (chsR xc yc m ((runsL nx ny).take (k + 1))).2.2 (.slice (some ⟨G, 0, none⟩) (cs.length + 1) cG)) := hide (by
          rw [unhide HNC]
          refine ⟨w0.1.trans y1', ?_⟩
          rw [List.length_append, List.length_singleton, opsV_app, opsV_one]
          exact o1)
        clear r1 o1 gr1 y1' w0 hal hcl2 hvs d0 d1 d2 KC
        go_wp2_with fail
        refine regionL (S := fun w' => w'.cell? ⟨g2, 1, none⟩ = some (.slice (some ⟨ga, offa, none⟩) xc.length c1) ∧ w'.cell? ⟨gb, 0, none⟩ = some (.int .i64 (p : Int)) ∧ w'.cell? ⟨ga, offa + i, none⟩ = some (.int .i64 (lo2 : Int)) ∧ w'.cell? ⟨ga, offa + p, none⟩ = some (.int .i64 (hi2 : Int))) (fun _ => false) (by kernel_rfl) ?_
        generalize v1.drew = v2 at *
        refine anyL_take (i := 0) (v := ?vq15) rfl (by kernel_rfl) (by kernel_rfl) (by kernel_rfl) (by kernel_rfl) (fun _ _ _ h => h) (Or.inl ⟨by rfl, ?hq15⟩) (S0) ?_
        case hq15 => (intro w hSw; (try dsimp only at hSw); go_simp) <;> with_reducible rfl
        simp only [Act.put, List.getElem_toArray, List.getElem_cons_zero, List.setIfInBounds_toArray, List.set_cons_zero, List.set_cons_succ]
        refine anyL_take (i := 1) (v := ?vq16) rfl (by kernel_rfl) (by kernel_rfl) (by kernel_rfl) (by kernel_rfl) (fun _ _ _ h => h) (Or.inl ⟨by rfl, ?hq16⟩) (S0) ?_
        case hq16 => (intro w hSw; (try dsimp only at hSw); go_simp) <;> with_reducible rfl
        simp only [Act.put, List.getElem_toArray, List.getElem_cons_zero, List.getElem_cons_succ, List.setIfInBounds_toArray, List.set_cons_zero, List.set_cons_succ]
        refine anyL_take (i := 2) (v := ?vq17) rfl (by kernel_rfl) (by kernel_rfl) (by kernel_rfl) (by kernel_rfl) (fun _ _ _ h => h) (Or.inl ⟨by rfl, ?hq17⟩) (S0) ?_
        case hq17 => (intro w hSw; (try dsimp only at hSw); go_simp) <;> with_reducible rfl
        simp only [Act.put, List.getElem_toArray, List.getElem_cons_zero, List.getElem_cons_succ, List.setIfInBounds_toArray, List.set_cons_zero, List.set_cons_succ]
        refine anyL_take (i := 3) (v := ?vq18) rfl (by kernel_rfl) (by kernel_rfl) (by kernel_rfl) (by kernel_rfl) (fun _ _ _ h => h) (Or.inl ⟨by rfl, ?hq18⟩) (S0) ?_
        case hq18 => (intro w hSw; (try dsimp only at hSw); go_simp) <;> with_reducible rfl
        simp only [Act.put, List.getElem_toArray, List.getElem_cons_zero, List.getElem_cons_succ, List.setIfInBounds_toArray, List.set_cons_zero, List.set_cons_succ]
        refine anyL_take (i := 4) (v := ?vq19) rfl (by kernel_rfl) (by kernel_rfl) (by kernel_rfl) (by kernel_rfl) (fun _ _ _ h => h) (Or.inl ⟨by rfl, ?hq19⟩) (S0) ?_
        case hq19 => (intro w hSw; (try dsimp only at hSw); go_simp) <;> with_reducible rfl
        simp only [Act.put, List.getElem_toArray, List.getElem_cons_zero, List.getElem_cons_succ, List.setIfInBounds_toArray, List.set_cons_zero, List.set_cons_succ]
        refine anyL_take (i := 5) (v := ?vq20) rfl (by kernel_rfl) (by kernel_rfl) (by kernel_rfl) (by kernel_rfl) (fun _ _ _ h => h) (Or.inl ⟨by rfl, ?hq20⟩) (S0) ?_
        case hq20 => (intro w hSw; (try dsimp only at hSw); go_simp) <;> with_reducible rfl
        simp only [Act.put, List.getElem_toArray, List.getElem_cons_zero, List.getElem_cons_succ, List.setIfInBounds_toArray, List.set_cons_zero, List.set_cons_succ]
        refine anyL_take (i := 6) (v := ?vq21) rfl (by kernel_rfl) (by kernel_rfl) (by kernel_rfl) (by kernel_rfl) (fun _ _ _ h => h) (Or.inl ⟨by rfl, ?hq21⟩) (S0) ?_
        case hq21 => (intro w hSw; (try dsimp only at hSw); go_simp) <;> with_reducible rfl
        simp only [Act.put, List.getElem_toArray, List.getElem_cons_zero, List.getElem_cons_succ, List.setIfInBounds_toArray, List.set_cons_zero, List.set_cons_succ]
        refine anyL_take (i := 7) (v := ?vq22) rfl (by kernel_rfl) (by kernel_rfl) (by kernel_rfl) (by kernel_rfl) (fun _ _ _ h => h) (Or.inl ⟨by rfl, ?hq22⟩) (S0) ?_
        case hq22 => (intro w hSw; (try dsimp only at hSw); go_simp) <;> with_reducible rfl
        simp only [Act.put, List.getElem_toArray, List.getElem_cons_zero, List.getElem_cons_succ, List.setIfInBounds_toArray, List.set_cons_zero, List.set_cons_succ]
        refine anyL_take (i := 8) (v := ?vq23) rfl (by kernel_rfl) (by kernel_rfl) (by kernel_rfl) (by kernel_rfl) (fun _ _ _ h => h) (Or.inl ⟨by rfl, ?hq23⟩) (S0) ?_
        case hq23 => (intro w hSw; (try dsimp only at hSw); go_simp) <;> with_reducible rfl
        simp only [Act.put, List.getElem_toArray, List.getElem_cons_zero, List.getElem_cons_succ, List.setIfInBounds_toArray, List.set_cons_zero, List.set_cons_succ]
        refine anyL_take (i := 9) (v := ?vq24) rfl (by kernel_rfl) (by kernel_rfl) (by kernel_rfl) (by kernel_rfl) (fun _ _ _ h => h) (Or.inl ⟨by rfl, ?hq24⟩) (S0) ?_
        case hq24 => (intro w hSw; (try dsimp only at hSw); go_simp) <;> with_reducible rfl
        simp only [Act.put, List.getElem_toArray, List.getElem_cons_zero, List.getElem_cons_succ, List.setIfInBounds_toArray, List.set_cons_zero, List.set_cons_succ]
        refine anyL_take (i := 10) (v := ?vq25) rfl (by kernel_rfl) (by kernel_rfl) (by kernel_rfl) (by kernel_rfl) (fun _ _ _ h => h) (Or.inl ⟨by rfl, ?hq25⟩) (S0) ?_
        case hq25 => (intro w hSw; (try dsimp only at hSw); go_simp) <;> with_reducible rfl
        simp only [Act.put, List.getElem_toArray, List.getElem_cons_zero, List.getElem_cons_succ, List.setIfInBounds_toArray, List.set_cons_zero, List.set_cons_succ]
        refine anyL_take (i := 11) (v := ?vq26) rfl (by kernel_rfl) (by kernel_rfl) (by kernel_rfl) (by kernel_rfl) (fun _ _ _ h => h) (Or.inl ⟨by rfl, ?hq26⟩) (S0) ?_
        case hq26 => (intro w hSw; (try dsimp only at hSw); go_simp) <;> with_reducible rfl
        simp only [Act.put, List.getElem_toArray, List.getElem_cons_zero, List.getElem_cons_succ, List.setIfInBounds_toArray, List.set_cons_zero, List.set_cons_succ]
        refine anyL_take (i := 12) (v := ?vq27) rfl (by kernel_rfl) (by kernel_rfl) (by kernel_rfl) (by kernel_rfl) (fun _ _ _ h => h) (Or.inl ⟨by rfl, ?hq27⟩) (S0) ?_
        case hq27 => (intro w hSw; (try dsimp only at hSw); go_simp) <;> with_reducible rfl
        simp only [Act.put, List.getElem_toArray, List.getElem_cons_zero, List.getElem_cons_succ, List.setIfInBounds_toArray, List.set_cons_zero, List.set_cons_succ]
        refine anyL_take (i := 13) (v := ?vq28) rfl (by kernel_rfl) (by kernel_rfl) (by kernel_rfl) (by kernel_rfl) (fun _ _ _ h => h) (Or.inl ⟨by rfl, ?hq28⟩) (S0) ?_
        case hq28 => (intro w hSw; (try dsimp only at hSw); go_simp) <;> with_reducible rfl
        simp only [Act.put, List.getElem_toArray, List.getElem_cons_zero, List.getElem_cons_succ, List.setIfInBounds_toArray, List.set_cons_zero, List.set_cons_succ]
        refine anyL_ready (rs := [14]) (by kernel_rfl) (by simp) ?_
        refine AllL.cons rfl (fun K hK => ?_) AllL.nil
        go_simp
        refine unhide hK _ _ (fun _ => S1) ?_
        clear hK K
        refine anyL_ready (rs := [15]) (by kernel_rfl) (by simp) ?_
        refine AllL.cons rfl (fun K hK => ?_) AllL.nil
        refine step_append_knownT rfl _ _ 53 53 rfl _ _ rfl rfl _ _ (unhide R1) ?_
        go_simp
        refine unhide hK _ _ (fun _ => S2) ?_
        clear hK K
        refine anyL_take (i := 16) (v := ?vq29) rfl (by kernel_rfl) (by kernel_rfl) (by kernel_rfl) (by kernel_rfl) (fun _ _ _ h => h) (Or.inl ⟨by rfl, ?hq29⟩) (S2) ?_
        case hq29 => (intro w hSw; (try dsimp only at hSw); go_simp) <;> with_reducible rfl
        simp only [Act.put, List.getElem_toArray, List.getElem_cons_zero, List.getElem_cons_succ, List.setIfInBounds_toArray, List.set_cons_zero, List.set_cons_succ]
        refine anyL_done (by kernel_rfl) ?_ _
        go_wp2_with fail
        clear S0 S1 S2
        go_quiet (fail)
        go_wp2_with fail
        go_roundw
        case rel => exact ⟨⟨_, rfl⟩, ⟨_, rfl⟩, k + 1, by go_num, h1, unhide HE6, unhide HE7, hide ⟨(unhide HNI).b.trans (bdrN (Below.refl _ _) _), rowD_below (unhide HNI).r (bdrN (Below.refl _ _) _) (Nat.le_refl _)⟩⟩
        case measure => simp [intOf]; omega
      have hch : ¬ (i < p ∨ j < q) := by omega
      have tA : decide ((i : Int) < (p : Int)) = false := decide_eq_false (by omega)
      have tB : decide ((j : Int) < (q : Int)) = false := decide_eq_false (by omega)
      have hcf := unhide HCF hch
      have w0 := unhide HW0 v0 (Below.refl _ _)
      have HNI : Hid (ChI w3 v0 (chsR xc yc m ((runsL nx ny).take (k + 1))).2.2 u5) := hide (by rw [hcf]; exact ⟨w0.1, w0.2⟩)
      clear HCF HCT HW0 HS0 KC hcf w0 hch
      go_wp2_with fail
      go_quiet (fail)
      go_wp2_with fail
      go_roundw
      case rel => exact ⟨⟨_, rfl⟩, ⟨_, rfl⟩, k + 1, by go_num, h1, unhide HE6, unhide HE7, hide ⟨(unhide HNI).b.trans (bdrN (Below.refl _ _) _), rowD_below (unhide HNI).r (bdrN (Below.refl _ _) _) (Nat.le_refl _)⟩⟩
      case measure => simp [intOf]; omega
    · have t1 : decide ((k : Int) < ((runsL nx ny).length : Int)) = false := decide_eq_false (by omega)
      have HE := hide (unhide HI2)
      rw [List.take_of_length_le (by omega)] at HE
      clear HI2
      go_wp2_with fail
      refine bodyPost_ret (results_tmp rfl _ _ _) rfl ⟨u5, rfl, (unhide HB3).trans ((unhide HE).b.mono (unhide HS)), row_baseS (unhide HE).r (unhide HS)⟩
end Go.Proofs.YtkdnanlgkedjgabDoor
end

section
namespace Go.Proofs.YtkdnanlgkedjgabDoor

section
variable (l m : List Int) (xc yc : List Nat)
/-- a delta of whole pieces, from piece i of the one and piece j of the other on; N of its pieces are put or dropped -/
def PcS : Nat → Nat → Nat → List Dop → Prop
  | i, j, N, [] => i + 1 = xc.length ∧ j + 1 = yc.length ∧ N = 0
  | i, j, N, o :: r =>
    (o.k = 1 ∧ o.t = [] ∧ ∃ n, 0 < n ∧ i + n < xc.length ∧ j + n < yc.length ∧ o.n = ((xc.getD (i + n) 0 - xc.getD i 0 : Nat) : Int) ∧ subL l (xc.getD i 0) (xc.getD (i + n) 0) = subL m (yc.getD j 0) (yc.getD (j + n) 0) ∧ PcS (i + n) (j + n) N r) ∨
    (o.k = 2 ∧ o.n = 0 ∧ ∃ n M, 0 < n ∧ j + n < yc.length ∧ o.t = subL m (yc.getD j 0) (yc.getD (j + n) 0) ∧ N = n + M ∧ PcS i (j + n) M r) ∨
    (o.k = 3 ∧ o.t = [] ∧ ∃ n M, 0 < n ∧ i + n < xc.length ∧ o.n = ((xc.getD (i + n) 0 - xc.getD i 0 : Nat) : Int) ∧ N = n + M ∧ PcS (i + n) j M r)
def kpO' (a b : Nat) : List Dop := if a < b then [⟨1, ((b - a : Nat) : Int), []⟩] else []
def ptO' (t : List Int) : List Dop := if t = [] then [] else [⟨2, 0, t⟩]
def drO' (a b : Nat) : List Dop := if a < b then [⟨3, ((b - a : Nat) : Int), []⟩] else []
/-- the operations of some runs; what is kept since piece i0 waits -/
def opsN : Nat → Nat → Nat → List (Nat × Nat × Nat) → List Dop
  | i0, i, _, [] => kpO' (xc.getD i0 0) (xc.getD i 0)
  | i0, i, j, (p, q, n) :: r =>
    if i < p ∨ j < q then kpO' (xc.getD i0 0) (xc.getD i 0) ++ (ptO' (subL m (yc.getD j 0) (yc.getD q 0)) ++ (drO' (xc.getD i 0) (xc.getD p 0) ++ opsN p (p + n) (q + n) r)) else opsN i0 (p + n) (q + n) r
/-- the changes of some runs -/
def chsN : Nat → Nat → List (Nat × Nat × Nat) → List Dop
  | _, _, [] => []
  | i, j, (p, q, n) :: r => (if i < p ∨ j < q then [⟨(xc.getD i 0 : Int), (xc.getD p 0 : Int), subL m (yc.getD j 0) (yc.getD q 0)⟩] else []) ++ chsN (p + n) (q + n) r
end
variable {l m : List Int} {xc yc : List Nat}
theorem chsN_is : ∀ (L : List (Nat × Nat × Nat)) (i j : Nat) (A : List Dop), (L.foldl (chR xc yc m) (i, j, A)).2.2 = A ++ chsN m xc yc i j L
  | [], _, _, A => by simp [chsN]
  | (p, q, n) :: r, i, j, A => by
    rw [List.foldl_cons]
    have := chsN_is r (p + n) (q + n) (chR xc yc m (i, j, A) (p, q, n)).2.2
    simp only [chsN]
    rw [← List.append_assoc]
    exact this
theorem cutP_cnt {x : List Int} {cs : List Nat} (h : OkCut x cs) : (cutP x cs).length + 1 = cs.length := by
  have := cutP_len x cs
  have := h.pos
  omega
theorem dA_kp (a b : Nat) : dA (kpO' a b) = List.replicate (b - a) .k := by
  unfold kpO'
  split
  · simp [dA, opA]
  · rw [show b - a = 0 by omega]; rfl
theorem dA_dr (a b : Nat) : dA (drO' a b) = List.replicate (b - a) .d := by
  unfold drO'
  split
  · simp [dA, opA]
  · rw [show b - a = 0 by omega]; rfl
theorem dA_pt (t : List Int) : dA (ptO' t) = t.map .p := by
  unfold ptO'
  split
  · rename_i h; rw [h]; rfl
  · simp [dA, opA]
theorem opA_k (a : Int) (n : Nat) (h : a = n) : opA ⟨1, a, []⟩ = List.replicate n .k := by subst h; simp [opA]
theorem opA_d (a : Int) (n : Nat) (h : a = n) : opA ⟨3, a, []⟩ = List.replicate n .d := by subst h; simp [opA]
/-- the changes' operations, atom by atom -/
theorem opsN_atoms (hx : OkCut l xc) (hy : OkCut m yc) : ∀ (L : List (Nat × Nat × Nat)) (i0 i j : Nat), RunOk (cutP l xc) (cutP m yc) i j L → i0 ≤ i → i < xc.length →
    dA (opC (xc.getD i0 0 : Int) (chsN m xc yc i j L) ++ [⟨1, (l.length : Int) - lstC (xc.getD i0 0 : Int) (chsN m xc yc i j L), []⟩]) = dA (opsN m xc yc i0 i j L)
  | [], i0, i, j, h, h0, hi => by
    have e := cutP_cnt hx
    have hl := hx.last
    have hm := hx.le h0 hi
    simp only [chsN, opC, lstC, opsN, List.nil_append]
    rw [show i = xc.length - 1 by have := h.1; omega, hl, dA_kp]
    rw [show i = xc.length - 1 by have := h.1; omega, hl] at hm
    simp [dA, opA]
  | (p, q, n) :: r, i0, i, j, h, h0, hi => by
    obtain ⟨h1, h2, h3, h4, _, h6⟩ := h
    have e := cutP_cnt hx
    have hm := hx.le h0 hi
    have hm2 := hx.le h1 (show p < xc.length by omega)
    simp only [chsN, opsN]
    by_cases g : i < p ∨ j < q
    · rw [if_pos g, if_pos g]
      have ih := opsN_atoms hx hy r p (p + n) (q + n) h6 (by omega) (by omega)
      simp only [List.cons_append, List.nil_append, opC, lstC, dA_cons, dA_app, dA_kp, dA_pt, dA_dr] at ih ⊢
      rw [opA_k _ (xc.getD i 0 - xc.getD i0 0) (by omega), opA_d _ (xc.getD p 0 - xc.getD i 0) (by omega), ← ih]
      simp [opA]
    · rw [if_neg g, if_neg g]
      exact opsN_atoms hx hy r i0 (p + n) (q + n) h6 (by omega) (by omega)
theorem chn_app2 : ∀ (d e : List Dop), Chn d → Chn e → (∀ x y, d.getLast? = some x → e.head? = some y → okN x.k y.k) → Chn (d ++ e)
  | [], _, _, h, _ => h
  | [a], [], _, _, _ => trivial
  | [a], b :: e, _, h, g => ⟨g a b rfl rfl, h⟩
  | a :: b :: d, e, h, h', g => ⟨h.1, chn_app2 (b :: d) e h.2 h' fun x y hx hy => g x y (by rw [List.getLast?_cons_cons]; exact hx) hy⟩
/-- kinds that may follow one another, the first behind q -/
def ChK : Int → List Dop → Prop
  | _, [] => True
  | q, o :: r => okN q o.k ∧ ChK o.k r
theorem chK_chn : ∀ (d : List Dop) (q : Int), ChK q d → Chn d
  | [], _, _ => trivial
  | [_], _, _ => trivial
  | a :: b :: r, _, h => ⟨h.2.1, chK_chn (b :: r) a.k h.2⟩
theorem sub_pos {x : List Int} {cs : List Nat} (h : OkCut x cs) {i j : Nat} (hij : i < j) (hj : j < cs.length) : subL x (cs.getD i 0) (cs.getD j 0) ≠ [] := by
  have h1 := h.mono hij hj
  have h2 := h.at_le hj
  unfold subL
  intro e
  have := congrArg List.length e
  rw [List.length_take, List.length_drop, List.length_nil] at this
  omega
theorem opsN_can (hx : OkCut l xc) (hy : OkCut m yc) : ∀ (L : List (Nat × Nat × Nat)) (i0 i j : Nat) (q0 : Int), RunOk (cutP l xc) (cutP m yc) i j L → i0 ≤ i → i < xc.length → (q0 = 0 ∨ ((q0 = 2 ∨ q0 = 3) ∧ (i0 < i ∨ L = []))) → (∀ p ∈ L.dropLast, 0 < p.2.2) →
    (∀ o ∈ opsN m xc yc i0 i j L, Pln o) ∧ ChK q0 (opsN m xc yc i0 i j L)
  | [], i0, i, j, q0, h, h0, hi, hq, _ => by
    simp only [opsN, kpO']
    split
    · refine ⟨fun o ho => ?_, ?_, trivial⟩
      · rw [List.mem_singleton] at ho; subst ho; refine .inl ⟨.inl rfl, ?_, rfl⟩; show (1 : Int) ≤ ((xc.getD i 0 - xc.getD i0 0 : Nat) : Int); omega
      · show okN q0 1
        unfold okN
        rcases hq with rfl | ⟨rfl | rfl, _⟩ <;> decide
    · exact ⟨fun o ho => by simp at ho, trivial⟩
  | (p, q, n) :: r, i0, i, j, q0, h, h0, hi, hq, hn => by
    obtain ⟨h1, h2, h3, h4, _, h6⟩ := h
    have e := cutP_cnt hx
    have e' := cutP_cnt hy
    have hr : ∀ p ∈ r.dropLast, 0 < p.2.2 := fun x hx => hn x (by cases r with | nil => simp at hx | cons a r => rw [List.dropLast_cons_of_ne_nil (by simp)]; simp [hx])
    have hnr : 0 < n ∨ r = [] := by
      cases r with
      | nil => exact .inr rfl
      | cons a r => exact .inl (hn (p, q, n) (by rw [List.dropLast_cons_of_ne_nil (by simp)]; simp))
    simp only [opsN]
    by_cases g : i < p ∨ j < q
    · rw [if_pos g]
      have nxt : (p < p + n ∨ r = []) := hnr.imp (fun g => by omega) id
      have ih2 := opsN_can hx hy r p (p + n) (q + n) 2 h6 (by omega) (by omega) (.inr ⟨.inl rfl, nxt⟩) hr
      have ih3 := opsN_can hx hy r p (p + n) (q + n) 3 h6 (by omega) (by omega) (.inr ⟨.inr rfl, nxt⟩) hr
      have hk : (kpO' (xc.getD i0 0) (xc.getD i 0) = [] ∧ q0 = 0) ∨ ∃ z : Nat, 1 ≤ z ∧ kpO' (xc.getD i0 0) (xc.getD i 0) = [⟨1, z, []⟩] := by
        unfold kpO'
        by_cases c : xc.getD i0 0 < xc.getD i 0
        · rw [if_pos c]; exact .inr ⟨_, by omega, rfl⟩
        · rw [if_neg c]
          refine .inl ⟨rfl, ?_⟩
          rcases hq with rfl | ⟨_, g2 | g2⟩
          · rfl
          · exact absurd (hx.mono g2 hi) c
          · cases g2
      have hp : (j < q ∧ ∃ t, t ≠ [] ∧ ptO' (subL m (yc.getD j 0) (yc.getD q 0)) = [⟨2, 0, t⟩]) ∨ (i < p ∧ ptO' (subL m (yc.getD j 0) (yc.getD q 0)) = []) := by
        by_cases c : j < q
        · have := sub_pos hy c (by omega)
          exact .inl ⟨c, _, this, by unfold ptO'; rw [if_neg this]⟩
        · refine .inr ⟨by omega, ?_⟩
          rw [show q = j by omega, subL_no]; rfl
      have hd : (∃ z : Nat, 1 ≤ z ∧ drO' (xc.getD i 0) (xc.getD p 0) = [⟨3, z, []⟩]) ∨ (¬ i < p ∧ drO' (xc.getD i 0) (xc.getD p 0) = []) := by
        unfold drO'
        by_cases c : i < p
        · have := hx.mono c (by omega)
          rw [if_pos this]; exact .inl ⟨_, by omega, rfl⟩
        · rw [show p = i by omega, if_neg (by omega)]; exact .inr ⟨by omega, rfl⟩
      have q1 : okN q0 1 := by unfold okN; rcases hq with rfl | ⟨rfl | rfl, _⟩ <;> decide
      have P1 : ∀ z : Nat, 1 ≤ z → Pln ⟨1, (z : Int), []⟩ := fun z hz => .inl ⟨.inl rfl, by show (1 : Int) ≤ (z : Int); omega, rfl⟩
      have P3 : ∀ z : Nat, 1 ≤ z → Pln ⟨3, (z : Int), []⟩ := fun z hz => .inl ⟨.inr rfl, by show (1 : Int) ≤ (z : Int); omega, rfl⟩
      have P2 : ∀ t : List Int, t ≠ [] → Pln ⟨2, 0, t⟩ := fun t ht => .inr ⟨rfl, rfl, ht⟩
      have k02 : okN 0 2 := by unfold okN; decide
      have k03 : okN 0 3 := by unfold okN; decide
      have k12 : okN 1 2 := by unfold okN; decide
      have k13 : okN 1 3 := by unfold okN; decide
      have k23 : okN 2 3 := by unfold okN; decide
      rcases hk with ⟨k1, rfl⟩ | ⟨zk, hzk, k1⟩ <;> rcases hp with ⟨cj, t, ht, k2⟩ | ⟨ci, k2⟩ <;> rcases hd with ⟨zd, hzd, k3⟩ | ⟨cd, k3⟩ <;> rw [k1, k2, k3] <;> simp only [List.nil_append, List.cons_append]
      · exact ⟨by simpa using ⟨P2 t ht, P3 zd hzd, ih3.1⟩, k02, k23, ih3.2⟩
      · exact ⟨by simpa using ⟨P2 t ht, ih2.1⟩, k02, ih2.2⟩
      · exact ⟨by simpa using ⟨P3 zd hzd, ih3.1⟩, k03, ih3.2⟩
      · exact absurd ci cd
      · exact ⟨by simpa using ⟨P1 zk hzk, P2 t ht, P3 zd hzd, ih3.1⟩, q1, k12, k23, ih3.2⟩
      · exact ⟨by simpa using ⟨P1 zk hzk, P2 t ht, ih2.1⟩, q1, k12, ih2.2⟩
      · exact ⟨by simpa using ⟨P1 zk hzk, P3 zd hzd, ih3.1⟩, q1, k13, ih3.2⟩
      · exact absurd ci cd
    · rw [if_neg g]
      refine opsN_can hx hy r i0 (p + n) (q + n) q0 h6 (by omega) (by omega) ?_ hr
      rcases hq with g | ⟨g, g2 | g2⟩
      · exact .inl g
      · exact .inr ⟨g, .inl (by omega)⟩
      · cases g2
theorem opsN_pcs (hx : OkCut l xc) (hy : OkCut m yc) : ∀ (L : List (Nat × Nat × Nat)) (i j k : Nat), RunOk (cutP l xc) (cutP m yc) (i + k) (j + k) L → i + k < xc.length → j + k < yc.length → subL l (xc.getD i 0) (xc.getD (i + k) 0) = subL m (yc.getD j 0) (yc.getD (j + k) 0) →
    ∃ N, PcS l m xc yc i j N (opsN m xc yc i (i + k) (j + k) L) ∧ N + 2 * sumR L + (i + k) + (j + k) + 2 = xc.length + yc.length
  | [], i, j, k, h, hi, hj, he => by
    have e := cutP_cnt hx
    have e' := cutP_cnt hy
    have h1 := h.1
    have h2 := h.2
    refine ⟨0, ?_, by simp [sumR]; omega⟩
    simp only [opsN, kpO']
    by_cases c : k = 0
    · subst c
      rw [if_neg (by simp)]
      exact ⟨by omega, by omega, rfl⟩
    · have := hx.mono (show i < i + k by omega) hi
      rw [if_pos this]
      exact .inl ⟨rfl, rfl, k, by omega, hi, hj, rfl, he, by omega, by omega, rfl⟩
  | (p, q, n) :: r, i, j, k, h, hi, hj, he => by
    obtain ⟨h1, h2, h3, h4, h5, h6⟩ := h
    have e := cutP_cnt hx
    have e' := cutP_cnt hy
    have hsr : sumR ((p, q, n) :: r) = n + sumR r := by simp [sumR]
    have hpc : subL l (xc.getD p 0) (xc.getD (p + n) 0) = subL m (yc.getD q 0) (yc.getD (q + n) 0) := by
      have c1 := hx.cut (i := p) (j := p + n) (by omega) (by omega)
      have c2 := hy.cut (i := q) (j := q + n) (by omega) (by omega)
      rw [show p + n - p = n by omega] at c1
      rw [show q + n - q = n by omega] at c2
      unfold subL
      rw [← c1, ← c2, h5]
    simp only [opsN]
    by_cases g : i + k < p ∨ j + k < q
    · rw [if_pos g]
      obtain ⟨N, i1, i2⟩ := opsN_pcs hx hy r p q n h6 (by omega) (by omega) hpc
      refine ⟨(q - (j + k)) + ((p - (i + k)) + N), ?_, by rw [hsr]; omega⟩
      have s3 : PcS l m xc yc (i + k) q ((p - (i + k)) + N) (drO' (xc.getD (i + k) 0) (xc.getD p 0) ++ opsN m xc yc p (p + n) (q + n) r) := by
        unfold drO'
        by_cases c : i + k < p
        · have := hx.mono c (by omega)
          rw [if_pos this]
          exact .inr (.inr ⟨rfl, rfl, p - (i + k), N, by omega, by omega, by rw [show i + k + (p - (i + k)) = p by omega], rfl, by rw [show i + k + (p - (i + k)) = p by omega]; exact i1⟩)
        · have hp : p = i + k := by omega
          rw [if_neg (by rw [hp]; omega), List.nil_append]
          rw [show (p - (i + k)) + N = N by omega, ← hp]
          exact i1
      have s2 : PcS l m xc yc (i + k) (j + k) ((q - (j + k)) + ((p - (i + k)) + N)) (ptO' (subL m (yc.getD (j + k) 0) (yc.getD q 0)) ++ (drO' (xc.getD (i + k) 0) (xc.getD p 0) ++ opsN m xc yc p (p + n) (q + n) r)) := by
        unfold ptO'
        by_cases c : j + k < q
        · have := sub_pos hy c (by omega)
          rw [if_neg this]
          exact .inr (.inl ⟨rfl, rfl, q - (j + k), (p - (i + k)) + N, by omega, by omega, by rw [show j + k + (q - (j + k)) = q by omega], rfl, by rw [show j + k + (q - (j + k)) = q by omega]; exact s3⟩)
        · have hq : q = j + k := by omega
          rw [if_pos (by rw [hq, subL_no]), List.nil_append]
          rw [show (q - (j + k)) + ((p - (i + k)) + N) = (p - (i + k)) + N by omega, ← hq]
          exact s3
      unfold kpO'
      by_cases c : k = 0
      · subst c
        rw [if_neg (by simp), List.nil_append]
        exact s2
      · have := hx.mono (show i < i + k by omega) hi
        rw [if_pos this]
        exact .inl ⟨rfl, rfl, k, by omega, hi, hj, rfl, he, s2⟩
    · rw [if_neg g]
      have hp : p = i + k := by omega
      have hq : q = j + k := by omega
      subst hp hq
      have hcut : subL l (xc.getD i 0) (xc.getD (i + (k + n)) 0) = subL m (yc.getD j 0) (yc.getD (j + (k + n)) 0) := by
        have a1 := hx.le (show i ≤ i + k by omega) hi
        have a2 := hx.le (show i + k ≤ i + k + n by omega) (by omega)
        have b1 := hy.le (show j ≤ j + k by omega) hj
        have b2 := hy.le (show j + k ≤ j + k + n by omega) (by omega)
        have sp : ∀ (z : List Int) (a b c : Nat), a ≤ b → b ≤ c → subL z a c = subL z a b ++ subL z b c := fun z a b c h h' => by
          unfold subL
          rw [show c - a = (b - a) + (c - b) by omega, List.take_add, List.drop_drop, show a + (b - a) = b by omega]
        rw [← Nat.add_assoc, ← Nat.add_assoc, sp l _ _ _ a1 a2, sp m _ _ _ b1 b2, he, hpc]
      obtain ⟨N, i1, i2⟩ := opsN_pcs hx hy r i j (k + n) (by rw [← Nat.add_assoc, ← Nat.add_assoc]; exact h6) (by omega) (by omega) hcut
      refine ⟨N, by rw [← Nat.add_assoc, ← Nat.add_assoc] at i1; exact i1, by rw [hsr]; omega⟩
/-- the delta of the program's runs -/
def leastD (l m : List Int) (xc yc : List Nat) : List Dop := opsN m xc yc 0 0 0 (runsL (cutP l xc) (cutP m yc))
theorem least_is (hx : OkCut l xc) (hy : OkCut m yc) : (chsR xc yc m (runsL (cutP l xc) (cutP m yc))).2.2 = chsN m xc yc 0 0 (runsL (cutP l xc) (cutP m yc)) ∧ Can (leastD l m xc yc) ∧
    dA (opsC l.length (chsN m xc yc 0 0 (runsL (cutP l xc) (cutP m yc)))) = dA (leastD l m xc yc) ∧ ∃ N, PcS l m xc yc 0 0 N (leastD l m xc yc) ∧ N + 2 * lcs (cutP l xc) (cutP m yc) + 2 = xc.length + yc.length := by
  have hr := runs_ok (cutP l xc) (cutP m yc)
  have hp := hx.pos
  have hp' := hy.pos
  refine ⟨by have := chsN_is (m := m) (xc := xc) (yc := yc) (runsL (cutP l xc) (cutP m yc)) 0 0 []; simpa [chsR] using this, ?_, ?_, ?_⟩
  · obtain ⟨h, M, t, e1, e2⟩ := runs_some (cutP l xc) (cutP m yc)
    have hr' := hr
    unfold leastD
    rw [e1] at hr' ⊢
    have hlt : 0 + h < xc.length := by have := hr'.2.2.1; have := cutP_cnt hx; omega
    have := opsN_can hx hy (M ++ [t]) 0 (0 + h) (0 + h) 0 hr'.2.2.2.2.2 (by omega) hlt (.inl rfl) (fun p hp => by
      rw [List.dropLast_concat] at hp
      rw [e2 p hp]; exact Nat.one_pos)
    have e3 : opsN m xc yc 0 0 0 ((0, 0, h) :: (M ++ [t])) = opsN m xc yc 0 (0 + h) (0 + h) (M ++ [t]) := by
      rw [opsN, if_neg (by omega)]
    rw [e3]
    exact ⟨this.1, chK_chn _ _ this.2⟩
  · have := opsN_atoms hx hy (runsL (cutP l xc) (cutP m yc)) 0 0 0 hr (Nat.le_refl _) hp
    rw [hx.zero] at this
    exact this
  · obtain ⟨N, h1, h2⟩ := opsN_pcs hx hy (runsL (cutP l xc) (cutP m yc)) 0 0 0 hr hp hp' (by rw [subL_no, subL_no])
    rw [runs_sum] at h2
    exact ⟨N, h1, by omega⟩
end Go.Proofs.YtkdnanlgkedjgabDoor
end
