/- SeekLong's walk. -/
import Derived.Test.YteamaneompijkaaGreatDoorSl47
import Derived.Test.YteamaneompijkaaGreatDoorSl49
import Derived.Test.YteamaneompijkaaGreatDoorSl45

namespace Go.Proofs.YteamaneompijkaaGreatDoor
open Go.ChangeShapes Go.WideShapes Go.ChangeAt Go.RowKit
attribute [local go_sem] Oper.semAt_some

theorem liV_form (T : List Int) : ∃ L1 L2 L3 L4 : Int → Int, ∀ x, liV (nbr T x) = .tuple #[.int .i64 (L1 x), .int .i64 (L2 x), .int .i64 (L3 x), .int .i64 (L4 x)] := by
  have h : ∀ x, ∃ q : Int × Int × Int × Int, liV (nbr T x) = .tuple #[.int .i64 q.1, .int .i64 q.2.1, .int .i64 q.2.2.1, .int .i64 q.2.2.2] := fun x => by
    cases hn : nbr T x with
    | none => exact ⟨(0, 0, 0, 2), rfl⟩
    | some e => exact ⟨((e.2.1 : Int), (e.2.2.1 : Int), (e.2.2.2 : Int), 0), rfl⟩
  exact ⟨fun x => (Classical.choose (h x)).1, fun x => (Classical.choose (h x)).2.1, fun x => (Classical.choose (h x)).2.2.1, fun x => (Classical.choose (h x)).2.2.2, fun x => Classical.choose_spec (h x)⟩
theorem atV_form (T : List Int) (p : Int) : ∃ (r n e : Int) (b : Bool), atV T p = .tuple #[.agg #[.int .i32 r, .int .i64 n, .bool b], .int .i64 e] := by
  unfold atV
  split
  · exact ⟨_, _, _, _, rfl⟩
  · split
    · exact ⟨_, _, _, _, rfl⟩
    · exact ⟨_, _, _, _, rfl⟩
theorem stV_form (T : List Int) (p : Int) : ∃ (q r n e : Int) (b : Bool), stV10 T p = .tuple #[.int .i64 q, .agg #[.int .i32 r, .int .i64 n, .bool b], .int .i64 e] := by
  unfold stV10
  split
  · exact ⟨_, _, _, _, _, rfl⟩
  · exact ⟨_, _, _, _, _, rfl⟩
theorem flV_form (T : List Int) (p : Int) : ∃ k kr : Int, floorV T p = .tuple #[.int .i64 k, .int .i64 kr] := by
  unfold floorV
  split
  · exact ⟨_, _, rfl⟩
  · exact ⟨_, _, rfl⟩
theorem flr_leZ (l : List Int) (p : Nat) : flr l p ≤ p := by unfold flr; split <;> (try split) <;> (try split) <;> omega
theorem stZ_at {T : List Int} {p k kr q sr sn se ur un ue : Int} {sb ub : Bool} (h0 : 0 ≤ p) (h1 : p < (T.length : Int)) (hf : floorV T p = .tuple #[.int .i64 k, .int .i64 kr]) (hs : stV10 T p = .tuple #[.int .i64 q, .agg #[.int .i32 sr, .int .i64 sn, .bool sb], .int .i64 se])
    (ha : atV T k = .tuple #[.agg #[.int .i32 ur, .int .i64 un, .bool ub], .int .i64 ue]) : se = 0 ∧ ue = 0 ∧ q = k ∧ ur = sr ∧ un = sn ∧ ub = sb := by
  have hk : flr T p.toNat ≤ p.toNat := flr_leZ T p.toNat
  unfold floorV at hf
  rw [if_neg (by omega)] at hf
  unfold stV10 stp stepV at hs
  rw [if_neg (by omega)] at hs
  simp only [Value.tuple.injEq, Array.mk.injEq, List.cons.injEq, Value.int.injEq, true_and, and_true] at hf
  obtain ⟨e1, e2⟩ := hf
  subst e1
  unfold atV stp stepV at ha
  rw [if_neg (by omega), if_neg (by rw [Int.toNat_natCast, flr_edge]; exact Bool.false_ne_true), Int.toNat_natCast] at ha
  simp only [Value.tuple.injEq, Array.mk.injEq, List.cons.injEq, Value.int.injEq, Value.agg.injEq, Value.bool.injEq, true_and, and_true] at hs ha
  obtain ⟨s1, ⟨s2, s3, s4⟩, s5⟩ := hs
  obtain ⟨⟨a2, a3, a4⟩, a5⟩ := ha
  exact ⟨s5.symm, a5.symm, s1.symm, a2.symm.trans s2, a3.symm.trans s3, a4.symm.trans s4⟩
theorem far_at (g : Nat) (o : Option Nd) (a : Option Addr) (c : Nat) (T : List Int) (p : Int) (w : World) (h1 : IsRo w g o) (e1 : txtO o = T) (hI : IsB w a c T) (hm : T.length ≤ 1048576) (hW : Wt w) :
    Calls Tryz.prog 13 #[.pointer (some ⟨g, 0, none⟩), .slice a T.length c, .int .i64 p] w fun y w' => y = .returned (.bool true) ∧ Below w.heap.size w w' := by
  obtain ⟨i0, i1, i2, i3, i4, i5, i6, e, hw⟩ := whV_form T p
  obtain ⟨L1, L2, L3, L4, hl⟩ := liV_form T
  obtain ⟨k, kr, hf⟩ := flV_form T p
  obtain ⟨q, sr, sn, se, sb, hs⟩ := stV_form T p
  obtain ⟨ur, un, ue, ub, ha⟩ := atV_form T k
  have m1 : (txtO o).length ≤ 268435456 := by rw [e1]; omega
  have hb := bytes_of h1
  refine far_of g T.length a c w p (fun fr x tr mo => (toP fr x tr mo (EE T) : Int)) (fun fr x tr mo => toR fr x tr mo (EE T)) (fun ln x fr mo => (atP T ln x fr mo : Int)) (fun ln x fr mo => atR T ln x fr mo) L1 L2 L3 L4 i0 i1 i2 i3 i4 i5 i6 e k kr q sr sn se ur un ue sb ub
    (hide ⟨fun X hx => ?_, fun X hx => hw ▸ Where_at a c T p X (hI.below hx (Nat.le_refl _)) (hW.below hx).1, fun X hx => ?_, fun X hx => hf ▸ Floor_at a c p T X (hI.below hx (Nat.le_refl _)) (hW.below hx).1, fun X hx => ?_, fun X hx => ha ▸ At_at a c k T X (hI.below hx (Nat.le_refl _)) (hW.below hx).1, fun h0 h2 => stZ_at h0 h2 hf hs ha,
      fun fr x tr mo X hx => ?_, fun fr x tr mo X hx => To_at a c T fr x tr mo X (hI.below hx (Nat.le_refl _)) (hW.below hx).1, fun ln x fr mo X hx => ?_, fun ln x fr mo X hx => AtL_at a c T ln x fr mo X (hI.below hx (Nat.le_refl _)) (hW.below hx).1, fun x X hx => ?_, fun x X hx => hl x ▸ Line_at a c T x X (hI.below hx (Nat.le_refl _))⟩)
  · have := Where10_at g o p X (h1.on hx) m1 (hW.below hx); rw [e1, hw] at this; exact this
  · have := Floor10_at g o p X (h1.on hx) hb m1 (hW.below hx); rw [e1, hf] at this; exact this
  · have := Step10_at g o p X (h1.on hx) m1 (hW.below hx); rw [e1, hs] at this; exact this
  · have := ToA10_at g o fr x tr mo X (h1.on hx) m1 (hW.below hx); rw [e1] at this; exact this
  · have := AtA10_at g o ln x fr mo X (h1.on hx) m1 (hW.below hx); rw [e1] at this; exact this
  · have := Line10_at g o x X (h1.on hx) m1 (hW.below hx); rw [e1, hl x] at this; exact this
theorem all_of (w : World) (a : Option Addr) (c : Nat) (la : List Int) (b : Option Addr) (d : Nat) (lb : List Int) (hA : IsN w a c la) (hB : IsN w b d lb) (h1 : la.length ≤ 10000) (h2 : lb.length ≤ 10000) :
    ∃ v1 W1 a' c' W2, (Builtin.append_ #[30, 30] 30 #[.slice (some ⟨w.heap.size, 0, none⟩) 0 0, .slice a la.length c]).run Tryz.prog (w.alloc (.cells #[] 5)) = .ok v1 W1 ∧
      (Builtin.append_ #[30, 30] 30 #[v1, .slice b lb.length d]).run Tryz.prog W1 = .ok (.slice a' (la ++ lb).length c') W2 ∧ IsN W2 a' c' (la ++ lb) ∧ Below w.heap.size w W2 := by
  have b0 : Below w.heap.size w (w.alloc (.cells #[] 5)) := (Below.refl _ _).alloc (Nat.le_refl _) _
  obtain ⟨v1, W1, r1, o1, x1, _⟩ := appG 30 (own_lit0S w) b0.size (hA.1.below b0 (Nat.le_refl _)) (by simp only [List.length_nil]; omega)
  rw [List.nil_append] at o1
  have X1 := b0.trans x1
  obtain ⟨v2, W2, r2, o2, x2, _⟩ := appG 30 o1 X1.size (hB.1.below X1 (Nat.le_refl _)) (by omega)
  obtain ⟨a', c', rfl, hN⟩ := own_isNS o2 (fun x hx => (List.mem_append.1 hx).elim (hA.1.2.2.2 x) (hB.1.2.2.2 x)) (by rw [List.length_append]; omega)
  exact ⟨v1, W1, a', c', W2, r1, r2, hN, X1.trans x2⟩
theorem nn_two (w : World) (a : Option Addr) (c : Nat) (la : List Int) (b : Option Addr) (d : Nat) (lb : List Int) (hA : IsN w a c la) (hB : IsN w b d lb) :
    IsNN (w.alloc (.cells #[.slice a la.length c, .slice b lb.length d] 30)) (some ⟨w.heap.size, 0, none⟩) [la, lb] := by
  have b0 := (Below.refl w.heap.size w).alloc (Nat.le_refl _) (.cells #[.slice a la.length c, .slice b lb.length d] 30)
  have g0 := push_get w (.cells #[.slice a la.length c, .slice b lb.length d] 30)
  refine Or.inr ⟨w.heap.size, 0, rfl, by simp, fun k hk => ?_⟩
  match k, hk with
  | 0, _ => exact ⟨a, c, by simp only [World.cell?, g0]; rfl, hA.below b0 (Nat.le_refl _)⟩
  | 1, _ => exact ⟨b, d, by simp only [World.cell?, g0]; rfl, hB.below b0 (Nat.le_refl _)⟩
/-- what is asked of the whole -/
structure LgF (g N : Nat) (a : Option Addr) (c : Nat) (w5 : World) (A B E : Int) (s1 s2 : ByteArray) : Prop where
  fa : ∀ p X, Below w5.heap.size w5 X → Calls Tryz.prog 13 #[.pointer (some ⟨g, 0, none⟩), .slice a N c, .int .i64 p] X fun y w' => y = .returned (.bool true) ∧ Below X.heap.size X w'
  we : ∀ X, Below w5.heap.size w5 X → Calls Tryz.prog 14 #[.pointer (some ⟨g, 0, none⟩)] X fun y w' => y = .returned (.agg #[.int .i64 (N : Int), .int .i64 A, .int .i64 B, .int .i64 E, .string s1, .string s2]) ∧ Below X.heap.size X w'
  z2 : ∀ X, Below w5.heap.size w5 X → Calls Tryz.prog 15 #[.slice a N c, .int .i64 2] X fun y w' => y = .returned (.tuple #[.int .i64 A, .int .i64 0]) ∧ Below X.heap.size X w'
  z3 : ∀ X, Below w5.heap.size w5 X → Calls Tryz.prog 15 #[.slice a N c, .int .i64 3] X fun y w' => y = .returned (.tuple #[.int .i64 B, .int .i64 0]) ∧ Below X.heap.size X w'
  co : ∀ X, Below w5.heap.size w5 X → Calls Tryz.prog 16 #[.slice a N c] X fun y w' => y = .returned (.int .i64 (E + 1)) ∧ Below X.heap.size X w'
  hE : wrap64 (E + 1) = E + 1
  hE2 : IntKind.i64.wrap (E + 1) = E + 1
theorem lgF_of (g : Nat) (o : Option Nd) (a : Option Addr) (c : Nat) (T : List Int) (w : World) (h1 : IsRo w g o) (e1 : txtO o = T) (hI : IsB w a c T) (hm : T.length ≤ 1048576) (hW : Wt w) :
    ∃ A B E s1 s2, LgF g T.length a c w A B E s1 s2 := by
  have hb : ∀ x ∈ T, 0 ≤ x ∧ x ≤ 255 := hI.2.2.2
  obtain ⟨z1, z2, z3⟩ := sz_is hb
  have zb : (szL T).b = (T.length : Int) := by rw [z1, sz_bytes hb]
  have hc := LN_count T
  have hz : (szL T).e = endsN T := rfl
  have hll := LN_len T
  refine ⟨(szE 2 T : Int), (szE 3 T : Int), endsN T, strOfNums (List.take 3 T), strOfNums (tail3 T), fun p X hx => far_at g o a c T p X (h1.on hx) e1 (hI.below hx (Nat.le_refl _)) hm (hW.below hx), fun X hx => ?_, fun X hx => Size_at a c T 2 X (hI.below hx (Nat.le_refl _)) (hW.below hx).1, fun X hx => Size_at a c T 3 X (hI.below hx (Nat.le_refl _)) (hW.below hx).1, fun X hx => hc ▸ Count_at a c T X (hI.below hx (Nat.le_refl _)), wrap_in _ (by omega) (by omega), by rw [IntKind.wrap_i64]; omega⟩
  have := Weld9_at g o X (h1.on hx)
  rw [weq9, e1, z2, z3, zb, hz] at this
  exact this
attribute [local go_sem] fldS10
theorem lg_arith {k n : Nat} (hn : n ≤ 4000) (hk : k ≤ n) : wrap64 ((k : Int) + 1) = ((k + 1 : Nat) : Int) ∧ (k < n → decide ((k : Int) < (n : Int)) = true ∧ (k : Int) < (n : Int)) ∧ (¬ k < n → decide ((k : Int) < (n : Int)) = false ∧ ¬ (k : Int) < (n : Int)) :=
  ⟨by rw [wrap_in _ (by omega) (by omega)]; omega, fun h => ⟨decide_eq_true (by omega), by omega⟩, fun h => ⟨decide_eq_false (by omega), by omega⟩⟩
theorem lg_meas {k n : Nat} (h : k < n) : n - (intOf (Value.int .i64 ((k + 1 : Nat) : Int))).toNat < n - (intOf (Value.int .i64 (k : Int))).toNat := by simp only [intOf]; omega
set_option maxRecDepth 100000 in
set_option maxHeartbeats 8000000 in
theorem SeekLong_any (q : LgV) (w : World) (h : IsLg w q) (hW : Wt w) :
    Calls Tryz.prog 4 #[lgV q] w fun y w' => y = .returned (.bool true) ∧ Below w.heap.size w w' := by
  obtain ⟨fA, fC, fl, t, hA, hC, hd, tA, tC, tl, at'⟩ := q
  obtain ⟨hf, hh, ht, _, _⟩ := h
  show Calls _ _ #[.agg #[.slice fA fl.length fC, .int .i64 t, .slice hA hd.length hC, .slice tA tl.length tC, .int .i64 at']] _ _
  obtain ⟨N, hN⟩ : ∃ N, N = fl.length := ⟨_, rfl⟩
  obtain ⟨H, hH⟩ : ∃ H, H = hd.length := ⟨_, rfl⟩
  obtain ⟨L, hL⟩ : ∃ L, L = tl.length := ⟨_, rfl⟩
  have HS := hide fun (X : World) (hx : Below w.heap.size w X) => Sides_of fA fC N t hA hC H tA tC L at' fl hd tl X hN hH hL (hf.1.below hx (Nat.le_refl _)) (hh.1.below hx (Nat.le_refl _)) (ht.1.below hx (Nat.le_refl _)) (by rw [hH]; exact hh.1.2.1) (by rw [hL]; exact ht.1.2.1)
  have HW := hide fun (X : World) (hx : Below w.heap.size w X) => hW.below hx
  rw [← hN, ← hH, ← hL]
  have b0 := (Below.refl w.heap.size w).alloc (Nat.le_refl _) (.cells #[.slice fA N fC, .int .i64 t, .slice hA H hC, .slice tA L tC, .int .i64 at'] 38)
  have K0 := Cls.new w 38 #[.slice fA N fC, .int .i64 t, .slice hA H hC, .slice tA L tC, .int .i64 at']
  clear hf hh ht hW hN hH hL
  go_enter Tryz.func4, Tryz.ntmps4
  go_upto_region 1 with fail
  generalize w.alloc (.cells #[.slice fA N fC, .int .i64 t, .slice hA H hC, .slice tA L tC, .int .i64 at'] 38) = w0 at *
  obtain ⟨gX, hgX⟩ : ∃ gX, gX = w.heap.size := ⟨_, rfl⟩
  rw [← hgX] at K0
  rw [← hgX]
  have HX : Hid (∀ X, Below w0.heap.size w0 X → X.cell? ⟨gX, 0, none⟩ = some (.slice fA N fC) ∧ X.cell? ⟨gX, 1, none⟩ = some (.int .i64 t) ∧ X.cell? ⟨gX, 2, none⟩ = some (.slice hA H hC) ∧ X.cell? ⟨gX, 3, none⟩ = some (.slice tA L tC) ∧ X.cell? ⟨gX, 4, none⟩ = some (.int .i64 at')) := hide fun X hx => cells5S (K0.below hx K0.lt)
  have HB0 := hide b0
  have HT : Hid (∀ X, Below w0.heap.size w0 X → Below w.heap.size w X) := hide fun X hx => (unhide HB0).trans (hx.mono (unhide HB0).size)
  clear K0 b0 hgX
  go_wp2_with fail
  refine (awake10_at w0 (unhide HW w0 (unhide HB0))).mono ?_
  rintro y w1 ⟨rfl, x1⟩
  dsimp only
  obtain ⟨q0, q1, q2, q3, q4⟩ := unhide HX w1 x1
  go_wp2_with fail
  refine (unhide HS w1 (unhide HT w1 x1)).mono ?_
  rintro y w2 ⟨hy, x2⟩
  have X2 := x1.trans (x2.mono x1.size)
  clear x1 x2 q0 q1 q2 q3 q4
  rcases hy with rfl | ⟨a, c, la, b, d, lb, rfl, hIa, hIb, hla, hlb⟩
  · dsimp only
    go_wp2_with fail
    go_ret
    exact ⟨rfl, unhide HT _ X2⟩
  · dsimp only
    have hNN := nn_two w2 a c la b d lb hIa hIb
    have x3 := (Below.refl w2.heap.size w2).alloc (Nat.le_refl _) (.cells #[.slice a la.length c, .slice b lb.length d] 30)
    obtain ⟨na, hna⟩ : ∃ na, na = la.length := ⟨_, rfl⟩
    obtain ⟨nb, hnb⟩ : ∃ nb, nb = lb.length := ⟨_, rfl⟩
    rw [← hna, ← hnb] at x3 hNN
    rw [← hna, ← hnb]
    have X3 := X2.trans (x3.mono X2.size)
    have hRo := Rope10_at _ 2 [la, lb] _ hNN (by simp; omega) (by simp) (unhide HW _ (unhide HT _ X3))
    rw [show ([la, lb] : List (List Int)).length = 2 from rfl] at hRo
    have HIa := hide (hIa.below x3 (Nat.le_refl _))
    have HIb := hide (hIb.below x3 (Nat.le_refl _))
    have HLL := hide (And.intro hna (And.intro hnb (And.intro hla hlb)))
    have HRo := hide hRo
    clear hRo hNN hIa hIb hla hlb hna hnb x3 X2
    go_upto_region 6 with fail
    go_wp2_with fail
    refine (unhide HRo).mono ?_
    rintro y w4 ⟨g, o, rfl, hr, htx, x4⟩
    dsimp only
    have X4 := X3.trans (x4.mono X3.size)
    obtain ⟨v5, W5, pa, pc, W6, r5, r6, hN6, x6⟩ := all_of w4 a c la b d lb ((unhide HIa).below x4 (Nat.le_refl _)) ((unhide HIb).below x4 (Nat.le_refl _)) (unhide HLL).2.2.1 (unhide HLL).2.2.2
    have X6 := X4.trans (x6.mono X4.size)
    obtain ⟨T, hT⟩ : ∃ T, T = la ++ lb := ⟨_, rfl⟩
    obtain ⟨M, hM⟩ : ∃ M, M = T.length := ⟨_, rfl⟩
    rw [← hT, ← hM] at r6
    rw [← hT] at hN6
    rw [← (unhide HLL).1] at r5
    rw [← (unhide HLL).2.1] at r6
    have hTl : T.length ≤ 1048576 := by have := unhide HLL; rw [hT, List.length_append]; omega
    obtain ⟨A, B, E, s1, s2, hLF⟩ := lgF_of g o pa pc T W6 (hr.on x6) (by rw [htx, hT]; simp) hN6.1 hTl (unhide HW _ (unhide HT _ X6))
    rw [← hM] at hLF
    have HF := hide hLF
    have R5 := hide r5
    have R6 := hide r6
    obtain ⟨q0, q1, q2, q3, q4⟩ := unhide HX W6 X6
    clear HRo HIa HIb hr htx x4 r5 r6 hN6 x6 hT hM hTl hLF X3 X4 HLL
    go_wp2_with (first | (at_builtin; refine wpList_append_known rfl _ _ 30 30 rfl _ _ rfl rfl _ _ (unhide R5) ?_; clear R5) | (at_builtin; refine wpList_append_known rfl _ _ 30 30 rfl _ _ rfl rfl _ _ (unhide R6) ?_; clear R6))
    refine (Places_of fA fC N t hA hC H tA tC L at' _ _ W6).mono ?_
    rintro y w7 ⟨n, ba, bc, rfl, hn, hcell, x7⟩
    dsimp only
    have X7 := X6.trans (x7.mono X6.size)
    have HC : Hid (∀ X, Below w7.heap.size w7 X → ∀ k, k < n → ∃ g z, ba = some ⟨g, 0, none⟩ ∧ X.cell? ⟨g, k, none⟩ = some (.int .i64 z)) := hide fun X hx k hk => by
      obtain ⟨g, z, e1, e2, e3⟩ := hcell k hk
      exact ⟨g, z, e1, (hx.cell (p := ⟨g, k, none⟩) e2).trans e3⟩
    have HX7 := hide (And.intro x7 X7)
    have HV : Hid (∀ X, Below w7.heap.size w7 X → Below W6.heap.size W6 X) := hide fun X hx => (unhide HX7).1.trans (hx.mono (unhide HX7).1.size)
    have HU : Hid (∀ X, Below w7.heap.size w7 X → Below w.heap.size w X) := hide fun X hx => unhide HT _ ((unhide HX7).2.trans (hx.mono (unhide HX7).2.size))
    have HNn := hide hn
    clear q0 q1 q2 q3 q4 x7 X7 X6 hcell hn
    go_wp2_with fail
    go_loopw [9, 43] (fun v9 v43 wz => (∃ z, v9 = z) ∧ ∃ (k : Nat), v43 = .int .i64 (k : Int) ∧ k ≤ n ∧ Hid (Below w7.heap.size w7 wz)) (fun _ v43 _ => n - (intOf v43).toNat)
    case atStart => exact ⟨⟨_, rfl⟩, 0, rfl, Nat.zero_le _, hide (Below.refl _ _)⟩
    case round =>
      obtain ⟨⟨z9, rfl⟩, k, rfl, hk, HD⟩ := hrel
      obtain ⟨k1, k2, k3⟩ := lg_arith (unhide HNn) hk
      by_cases ck : k < n
      · obtain ⟨d1, d2⟩ := k2 ck
        obtain ⟨gp, z, rfl, hz⟩ := unhide HC wr (unhide HD) k ck
        have HC1 := hide ((unhide HF).fa z wr (unhide HV _ (unhide HD)))
        clear k2 k3
        go_wp2_with fail
        refine (unhide HC1).mono ?_
        rintro y u1 ⟨rfl, y1⟩
        dsimp only
        have HD1 := hide ((unhide HD).trans (y1.mono (unhide HD).size))
        clear y1 HD HC1 hz
        go_wp2_with fail
        go_roundw
        case rel => exact ⟨⟨_, rfl⟩, k + 1, by rw [k1], ck, HD1⟩
        case measure => rw [k1]; exact lg_meas ck
      · obtain ⟨d1, d2⟩ := k3 ck
        clear k2 k3
        go_wp2_with fail
        refine ((unhide HF).we wr (unhide HV _ (unhide HD))).mono ?_
        rintro y u1 ⟨rfl, y1⟩
        dsimp only
        have F1 := (unhide HD).trans (y1.mono (unhide HD).size)
        clear y1 HD
        go_upto_region 17 with fail
        have x2 := (Below.refl u1.heap.size u1).alloc (Nat.le_refl _) (.cells #[.int .i64 (M : Int), .int .i64 A, .int .i64 B, .int .i64 E] 45)
        have K2 := Cls.new u1 45 #[.int .i64 (M : Int), .int .i64 A, .int .i64 B, .int .i64 E]
        generalize u1.alloc (.cells #[.int .i64 (M : Int), .int .i64 A, .int .i64 B, .int .i64 E] 45) = u2 at *
        have F2 := F1.trans (x2.mono F1.size)
        clear x2 F1
        generalize u1.heap.size = gZ at *
        go_wp2_with fail
        refine ((unhide HF).z2 u2 (unhide HV _ F2)).mono ?_
        rintro y u3 ⟨rfl, y3⟩
        dsimp only
        have F3 := F2.trans (y3.mono F2.size)
        have K3 := K2.below y3 K2.lt
        clear y3 F2 K2
        go_wp2_with fail
        refine ((unhide HF).z3 u3 (unhide HV _ F3)).mono ?_
        rintro y u4 ⟨rfl, y4⟩
        dsimp only
        have F4 := F3.trans (y4.mono F3.size)
        have K4 := K3.below y4 K3.lt
        clear y4 F3 K3
        have HSW : Hid (∀ X, Below u4.heap.size u4 X → X.cell? ⟨gZ, 0, none⟩ = some (.int .i64 (M : Int)) ∧ X.cell? ⟨gZ, 1, none⟩ = some (.int .i64 A) ∧ X.cell? ⟨gZ, 2, none⟩ = some (.int .i64 B) ∧ X.cell? ⟨gZ, 3, none⟩ = some (.int .i64 E)) := hide fun X hx => by
          have hq := K4.below hx K4.lt
          exact ⟨(hq.cell 0).trans rfl, (hq.cell 1).trans rfl, (hq.cell 2).trans rfl, (hq.cell 3).trans rfl⟩
        have hE := (unhide HF).hE
        have hE2 := (unhide HF).hE2
        clear K4
        go_upto_region 19 with fail
        have E0 : Below u4.heap.size u4 u4.drew := (Below.refl _ _).drew
        refine regionL (S := fun w' => w'.cell? ⟨gZ, 0, none⟩ = some (.int .i64 (M : Int)) ∧ w'.cell? ⟨gZ, 1, none⟩ = some (.int .i64 A) ∧ w'.cell? ⟨gZ, 2, none⟩ = some (.int .i64 B) ∧ w'.cell? ⟨gZ, 3, none⟩ = some (.int .i64 E)) (fun _ => false) (by kernel_rfl) ?_
        generalize u4.drew = u5 at *
        refine anyL_take (i := 0) (v := ?vsz190) rfl (by kernel_rfl) (by kernel_rfl) (by kernel_rfl) (by kernel_rfl) (fun _ _ _ h => h) (Or.inl ⟨by rfl, ?hsz190⟩) (unhide HSW _ E0) ?_
        case hsz190 => (intro w hSw; (try dsimp only at hSw); go_simp) <;> with_reducible rfl
        simp only [Act.put, List.getElem_toArray, List.getElem_cons_zero, List.setIfInBounds_toArray, List.set_cons_zero, List.set_cons_succ]
        refine anyL_take (i := 1) (v := ?vsz191) rfl (by kernel_rfl) (by kernel_rfl) (by kernel_rfl) (by kernel_rfl) (fun _ _ _ h => h) (Or.inl ⟨by rfl, ?hsz191⟩) (unhide HSW _ E0) ?_
        case hsz191 => (intro w hSw; (try dsimp only at hSw); go_simp) <;> with_reducible rfl
        simp only [Act.put, List.getElem_toArray, List.getElem_cons_zero, List.getElem_cons_succ, List.setIfInBounds_toArray, List.set_cons_zero, List.set_cons_succ]
        refine anyL_take (i := 2) (v := ?vsz192) rfl (by kernel_rfl) (by kernel_rfl) (by kernel_rfl) (by kernel_rfl) (fun _ _ _ h => h) (Or.inl ⟨by rfl, ?hsz192⟩) (unhide HSW _ E0) ?_
        case hsz192 => (intro w hSw; (try dsimp only at hSw); go_simp) <;> with_reducible rfl
        simp only [Act.put, List.getElem_toArray, List.getElem_cons_zero, List.getElem_cons_succ, List.setIfInBounds_toArray, List.set_cons_zero, List.set_cons_succ]
        refine anyL_take (i := 3) (v := ?vsz193) rfl (by kernel_rfl) (by kernel_rfl) (by kernel_rfl) (by kernel_rfl) (fun _ _ _ h => h) (Or.inl ⟨by rfl, ?hsz193⟩) (unhide HSW _ E0) ?_
        case hsz193 => (intro w hSw; (try dsimp only at hSw); go_simp) <;> with_reducible rfl
        simp only [Act.put, List.getElem_toArray, List.getElem_cons_zero, List.getElem_cons_succ, List.setIfInBounds_toArray, List.set_cons_zero, List.set_cons_succ]
        refine anyL_take (i := 4) (v := ?vsz194) rfl (by kernel_rfl) (by kernel_rfl) (by kernel_rfl) (by kernel_rfl) (fun _ _ _ h => h) (Or.inl ⟨by rfl, ?hsz194⟩) (unhide HSW _ E0) ?_
        case hsz194 => (intro w hSw; (try dsimp only at hSw); go_simp) <;> with_reducible rfl
        simp only [Act.put, List.getElem_toArray, List.getElem_cons_zero, List.getElem_cons_succ, List.setIfInBounds_toArray, List.set_cons_zero, List.set_cons_succ]
        refine anyL_take (i := 5) (v := ?vsz195) rfl (by kernel_rfl) (by kernel_rfl) (by kernel_rfl) (by kernel_rfl) (fun _ _ _ h => h) (Or.inl ⟨by rfl, ?hsz195⟩) (unhide HSW _ E0) ?_
        case hsz195 => (intro w hSw; (try dsimp only at hSw); go_simp) <;> with_reducible rfl
        simp only [Act.put, List.getElem_toArray, List.getElem_cons_zero, List.getElem_cons_succ, List.setIfInBounds_toArray, List.set_cons_zero, List.set_cons_succ]
        refine anyL_take (i := 6) (v := ?vsz196) rfl (by kernel_rfl) (by kernel_rfl) (by kernel_rfl) (by kernel_rfl) (fun _ _ _ h => h) (Or.inl ⟨by rfl, ?hsz196⟩) (unhide HSW _ E0) ?_
        case hsz196 => (intro w hSw; (try dsimp only at hSw); go_simp) <;> with_reducible rfl
        simp only [Act.put, List.getElem_toArray, List.getElem_cons_zero, List.getElem_cons_succ, List.setIfInBounds_toArray, List.set_cons_zero, List.set_cons_succ]
        refine anyL_take (i := 7) (v := ?vsz197) rfl (by kernel_rfl) (by kernel_rfl) (by kernel_rfl) (by kernel_rfl) (fun _ _ _ h => h) (Or.inl ⟨by rfl, ?hsz197⟩) (unhide HSW _ E0) ?_
        case hsz197 => (intro w hSw; (try dsimp only at hSw); go_simp) <;> with_reducible rfl
        simp only [Act.put, List.getElem_toArray, List.getElem_cons_zero, List.getElem_cons_succ, List.setIfInBounds_toArray, List.set_cons_zero, List.set_cons_succ]
        refine anyL_take (i := 8) (v := ?vsz198) rfl (by kernel_rfl) (by kernel_rfl) (by kernel_rfl) (by kernel_rfl) (fun _ _ _ h => h) (Or.inl ⟨by rfl, ?hsz198⟩) (unhide HSW _ E0) ?_
        case hsz198 => (intro w hSw; (try dsimp only at hSw); go_simp) <;> with_reducible rfl
        simp only [Act.put, List.getElem_toArray, List.getElem_cons_zero, List.getElem_cons_succ, List.setIfInBounds_toArray, List.set_cons_zero, List.set_cons_succ]
        refine anyL_take (i := 9) (v := ?vsz199) rfl (by kernel_rfl) (by kernel_rfl) (by kernel_rfl) (by kernel_rfl) (fun _ _ _ h => h) (Or.inl ⟨by rfl, ?hsz199⟩) (unhide HSW _ E0) ?_
        case hsz199 => (intro w hSw; (try dsimp only at hSw); go_simp) <;> with_reducible rfl
        simp only [Act.put, List.getElem_toArray, List.getElem_cons_zero, List.getElem_cons_succ, List.setIfInBounds_toArray, List.set_cons_zero, List.set_cons_succ]
        refine anyL_take (i := 10) (v := ?vsz1910) rfl (by kernel_rfl) (by kernel_rfl) (by kernel_rfl) (by kernel_rfl) (fun _ _ _ h => h) (Or.inl ⟨by rfl, ?hsz1910⟩) (unhide HSW _ E0) ?_
        case hsz1910 => (intro w hSw; (try dsimp only at hSw); go_simp) <;> with_reducible rfl
        simp only [Act.put, List.getElem_toArray, List.getElem_cons_zero, List.getElem_cons_succ, List.setIfInBounds_toArray, List.set_cons_zero, List.set_cons_succ]
        refine anyL_take (i := 11) (v := ?vsz1911) rfl (by kernel_rfl) (by kernel_rfl) (by kernel_rfl) (by kernel_rfl) (fun _ _ _ h => h) (Or.inl ⟨by rfl, ?hsz1911⟩) (unhide HSW _ E0) ?_
        case hsz1911 => (intro w hSw; (try dsimp only at hSw); go_simp) <;> with_reducible rfl
        simp only [Act.put, List.getElem_toArray, List.getElem_cons_zero, List.getElem_cons_succ, List.setIfInBounds_toArray, List.set_cons_zero, List.set_cons_succ]
        refine anyL_take (i := 12) (v := ?vsz1912) rfl (by kernel_rfl) (by kernel_rfl) (by kernel_rfl) (by kernel_rfl) (fun _ _ _ h => h) (Or.inl ⟨by rfl, ?hsz1912⟩) (unhide HSW _ E0) ?_
        case hsz1912 => (intro w hSw; (try dsimp only at hSw); go_simp) <;> with_reducible rfl
        simp only [Act.put, List.getElem_toArray, List.getElem_cons_zero, List.getElem_cons_succ, List.setIfInBounds_toArray, List.set_cons_zero, List.set_cons_succ]
        refine anyL_take (i := 13) (v := ?vsz1913) rfl (by kernel_rfl) (by kernel_rfl) (by kernel_rfl) (by kernel_rfl) (fun _ _ _ h => h) (Or.inl ⟨by rfl, ?hsz1913⟩) (unhide HSW _ E0) ?_
        case hsz1913 => (intro w hSw; (try dsimp only at hSw); go_simp) <;> with_reducible rfl
        simp only [Act.put, List.getElem_toArray, List.getElem_cons_zero, List.getElem_cons_succ, List.setIfInBounds_toArray, List.set_cons_zero, List.set_cons_succ]
        refine anyL_take (i := 14) (v := ?vsz1914) rfl (by kernel_rfl) (by kernel_rfl) (by kernel_rfl) (by kernel_rfl) (fun _ _ _ h => h) (Or.inl ⟨by rfl, ?hsz1914⟩) (unhide HSW _ E0) ?_
        case hsz1914 => (intro w hSw; (try dsimp only at hSw); go_simp) <;> with_reducible rfl
        simp only [Act.put, List.getElem_toArray, List.getElem_cons_zero, List.getElem_cons_succ, List.setIfInBounds_toArray, List.set_cons_zero, List.set_cons_succ]
        refine anyL_take (i := 15) (v := ?vsz1915) rfl (by kernel_rfl) (by kernel_rfl) (by kernel_rfl) (by kernel_rfl) (fun _ _ _ h => h) (Or.inl ⟨by rfl, ?hsz1915⟩) (unhide HSW _ E0) ?_
        case hsz1915 => (intro w hSw; (try dsimp only at hSw); go_simp) <;> with_reducible rfl
        simp only [Act.put, List.getElem_toArray, List.getElem_cons_zero, List.getElem_cons_succ, List.setIfInBounds_toArray, List.set_cons_zero, List.set_cons_succ]
        refine anyL_take (i := 16) (v := ?vsz1916) rfl (by kernel_rfl) (by kernel_rfl) (by kernel_rfl) (by kernel_rfl) (fun _ _ _ h => h) (Or.inl ⟨by rfl, ?hsz1916⟩) (unhide HSW _ E0) ?_
        case hsz1916 => (intro w hSw; (try dsimp only at hSw); go_simp) <;> with_reducible rfl
        simp only [Act.put, List.getElem_toArray, List.getElem_cons_zero, List.getElem_cons_succ, List.setIfInBounds_toArray, List.set_cons_zero, List.set_cons_succ]
        refine anyL_take (i := 17) (v := ?vsz1917) rfl (by kernel_rfl) (by kernel_rfl) (by kernel_rfl) (by kernel_rfl) (fun _ _ _ h => h) (Or.inl ⟨by rfl, ?hsz1917⟩) (unhide HSW _ E0) ?_
        case hsz1917 => (intro w hSw; (try dsimp only at hSw); go_simp) <;> with_reducible rfl
        simp only [Act.put, List.getElem_toArray, List.getElem_cons_zero, List.getElem_cons_succ, List.setIfInBounds_toArray, List.set_cons_zero, List.set_cons_succ]
        refine anyL_take (i := 18) (v := ?vsz1918) rfl (by kernel_rfl) (by kernel_rfl) (by kernel_rfl) (by kernel_rfl) (fun _ _ _ h => h) (Or.inl ⟨by rfl, ?hsz1918⟩) (unhide HSW _ E0) ?_
        case hsz1918 => (intro w hSw; (try dsimp only at hSw); go_simp) <;> with_reducible rfl
        simp only [Act.put, List.getElem_toArray, List.getElem_cons_zero, List.getElem_cons_succ, List.setIfInBounds_toArray, List.set_cons_zero, List.set_cons_succ]
        refine anyL_take (i := 19) (v := ?vsz1919) rfl (by kernel_rfl) (by kernel_rfl) (by kernel_rfl) (by kernel_rfl) (fun _ _ _ h => h) (Or.inl ⟨by rfl, ?hsz1919⟩) (unhide HSW _ E0) ?_
        case hsz1919 => (intro w hSw; (try dsimp only at hSw); go_simp) <;> with_reducible rfl
        simp only [Act.put, List.getElem_toArray, List.getElem_cons_zero, List.getElem_cons_succ, List.setIfInBounds_toArray, List.set_cons_zero, List.set_cons_succ]
        refine anyL_take (i := 20) (v := ?vsz1920) rfl (by kernel_rfl) (by kernel_rfl) (by kernel_rfl) (by kernel_rfl) (fun _ _ _ h => h) (Or.inl ⟨by rfl, ?hsz1920⟩) (unhide HSW _ E0) ?_
        case hsz1920 => (intro w hSw; (try dsimp only at hSw); go_simp) <;> with_reducible rfl
        simp only [Act.put, List.getElem_toArray, List.getElem_cons_zero, List.getElem_cons_succ, List.setIfInBounds_toArray, List.set_cons_zero, List.set_cons_succ]
        refine anyL_take (i := 21) (v := ?vsz1921) rfl (by kernel_rfl) (by kernel_rfl) (by kernel_rfl) (by kernel_rfl) (fun _ _ _ h => h) (Or.inl ⟨by rfl, ?hsz1921⟩) (unhide HSW _ E0) ?_
        case hsz1921 => (intro w hSw; (try dsimp only at hSw); go_simp) <;> with_reducible rfl
        simp only [Act.put, List.getElem_toArray, List.getElem_cons_zero, List.getElem_cons_succ, List.setIfInBounds_toArray, List.set_cons_zero, List.set_cons_succ]
        refine anyL_ready (rs := [22]) (by kernel_rfl) (by simp) ?_
        refine AllL.cons rfl (fun K hK => ?_) AllL.nil
        go_simp
        refine ((unhide HF).co _ (unhide HV _ (F4.trans (E0.mono F4.size)))).mono ?_
        rintro e n1 ⟨rfl, y5⟩
        have G1 := E0.trans (y5.mono E0.size)
        refine unhide hK _ _ (fun _ => unhide HSW _ G1) ?_
        clear hK K y5
        refine anyL_take (i := 23) (v := ?vsz1922) rfl (by kernel_rfl) (by kernel_rfl) (by kernel_rfl) (by kernel_rfl) (fun _ _ _ h => h) (Or.inl ⟨by rfl, ?hsz1922⟩) (unhide HSW _ G1) ?_
        case hsz1922 => (intro w hSw; (try dsimp only at hSw); go_simp) <;> with_reducible rfl
        simp only [Act.put, List.getElem_toArray, List.getElem_cons_zero, List.getElem_cons_succ, List.setIfInBounds_toArray, List.set_cons_zero, List.set_cons_succ]
        refine anyL_take (i := 24) (v := ?vsz1923) rfl (by kernel_rfl) (by kernel_rfl) (by kernel_rfl) (by kernel_rfl) (fun _ _ _ h => h) (Or.inl ⟨by rfl, ?hsz1923⟩) (unhide HSW _ G1) ?_
        case hsz1923 => (intro w hSw; (try dsimp only at hSw); go_simp) <;> with_reducible rfl
        simp only [Act.put, List.getElem_toArray, List.getElem_cons_zero, List.getElem_cons_succ, List.setIfInBounds_toArray, List.set_cons_zero, List.set_cons_succ]
        refine anyL_take (i := 25) (v := ?vsz1924) rfl (by kernel_rfl) (by kernel_rfl) (by kernel_rfl) (by kernel_rfl) (fun _ _ _ h => h) (Or.inl ⟨by rfl, ?hsz1924⟩) (unhide HSW _ G1) ?_
        case hsz1924 => (intro w hSw; (try dsimp only at hSw); go_simp) <;> with_reducible rfl
        simp only [Act.put, List.getElem_toArray, List.getElem_cons_zero, List.getElem_cons_succ, List.setIfInBounds_toArray, List.set_cons_zero, List.set_cons_succ]
        refine anyL_done (by kernel_rfl) ?_ _
        go_wp2_with fail
        go_ret
        exact ⟨rfl, unhide HU _ (F4.trans (G1.mono F4.size))⟩

end Go.Proofs.YteamaneompijkaaGreatDoor
