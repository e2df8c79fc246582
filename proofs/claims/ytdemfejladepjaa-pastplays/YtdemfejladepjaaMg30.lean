/- Layer 17: galleylaw17.plays of a past of states galley/galleylaw17.Pair. Written by wip/tools/pvi.py. -/
import Derived.Test.YtdemfejladepjaaMg29
import Derived.Test.YtdemfejladepjaaMg16

namespace Go.Proofs.Ytdemfejladepjaa
open Go.ChangeShapes Go.WideShapes Go.ChangeAt Go.RowKit
attribute [local go_sem] Oper.semAt_some

theorem undo_twoQ (p : Pa Int) : (∃ p1 x, undoP p = (p1, some x, 0)) ∨ ∃ p1 e, e ≠ 0 ∧ undoP p = (p1, none, e) := by
  unfold undoP
  split
  · exact .inr ⟨_, _, by omega, rfl⟩
  · split
    · exact .inr ⟨_, _, by omega, rfl⟩
    · exact .inl ⟨_, _, rfl⟩
theorem redo_twoQ (p : Pa Int) : (∃ p1 x, redoP p = (p1, some x, 0)) ∨ ∃ p1 e, e ≠ 0 ∧ redoP p = (p1, none, e) := by
  unfold redoP
  split
  · exact .inr ⟨_, _, by omega, rfl⟩
  · split
    · exact .inr ⟨_, _, by omega, rfl⟩
    · exact .inl ⟨_, _, rfl⟩
theorem stepGQ_at (X : World) (F : Nat → Prop) (g : Nat) (p : Pa Int) (D : Nat → Prop) (c : Array Value) (hP : PsQ X F g (mpQ p)) (hD : IsD X D c p) (hok : OkP p) (hdj : ∀ i, D i → ¬ F i) (k n : Int) (w : ByteArray) (hw : w.size ≤ 281474976710656) :
    Calls Try.prog 21 #[.pointer (some ⟨g, 0, none⟩), .agg c, .agg #[.int .i64 k, .int .i64 n, .string w], .func (.func 8) #[] #[]] X fun y Y => ∃ c' D' G, y = .returned (.tuple #[.agg c', .bool true]) ∧ IsD Y D' c' (stP p ⟨k, n, w⟩) ∧ PsQ Y G g (mpQ (stP p ⟨k, n, w⟩)) ∧ (∀ i, D' i → ¬ G i) ∧ Gr F X G Y ∧ ∀ i, D' i → D i ∨ X.heap.size ≤ i := by
  by_cases q1 : k = 1
  · subst q1; exact step1Q_at X F g p D c hP hD hok hdj n w hw
  by_cases q2 : k = 2
  · subst q2
    rw [show stP p ⟨2, n, w⟩ = (undoP p).1 from rfl]
    rcases undo_twoQ p with ⟨p1, x, e⟩ | ⟨p1, x, hx, e⟩
    · rw [e]; exact step2yQ_at X F g p D c hP hD hok hdj n w hw p1 x e
    · rw [e]; exact step2nQ_at X F g p D c hP hD hok hdj n w hw p1 x hx e
  by_cases q3 : k = 3
  · subst q3
    rw [show stP p ⟨3, n, w⟩ = (redoP p).1 from rfl]
    rcases redo_twoQ p with ⟨p1, x, e⟩ | ⟨p1, x, hx, e⟩
    · rw [e]; exact step3yQ_at X F g p D c hP hD hok hdj n w hw p1 x e
    · rw [e]; exact step3nQ_at X F g p D c hP hD hok hdj n w hw p1 x hx e
  by_cases q4 : k = 4
  · subst q4; exact step4Q_at X F g p D c hP hD hok hdj n w hw
  by_cases q5 : k = 5
  · subst q5; exact step5Q_at X F g p D c hP hD hok hdj n w hw
  by_cases q6 : k = 6
  · subst q6; exact step6Q_at X F g p D c hP hD hok hdj n w hw
  rw [show stP p ⟨k, n, w⟩ = p by unfold stP; simp [q1, q2, q3, q4, q5, q6]]
  exact step0Q_at X F g p D c hP hD hok hdj k n w hw ⟨by simpa using q1, by simpa using q2, by simpa using q3, by simpa using q4, by simpa using q5, by simpa using q6⟩
theorem stepNQ_at (X : World) (k n : Int) (w : ByteArray) :
    Calls Try.prog 21 #[.pointer none, .agg cBad, .agg #[.int .i64 k, .int .i64 n, .string w], .func (.func 8) #[] #[]] X fun y Y => y = .returned (.tuple #[.agg cBad, .bool true]) ∧ Below X.heap.size X Y := by
  by_cases q1 : k = 1
  · subst q1; exact step1BQ_at X n w
  by_cases q2 : k = 2
  · subst q2; exact step2BQ_at X n w
  by_cases q3 : k = 3
  · subst q3; exact step3BQ_at X n w
  by_cases q4 : k = 4
  · subst q4; exact step4BQ_at X n w
  by_cases q5 : k = 5
  · subst q5; exact step5BQ_at X n w
  by_cases q6 : k = 6
  · subst q6; exact step6BQ_at X n w
  exact step0BQ_at X k n w ⟨by simpa using q1, by simpa using q2, by simpa using q3, by simpa using q4, by simpa using q5, by simpa using q6⟩
theorem wordsTQ_at (X : World) (v1 v2 : Value) (l : List ByteArray) (k1 k2 : Option Nat) (h1 : RS X v1 l k1) (h2 : RS X v2 l k2) (hl : l.length ≤ 1000000) :
    Calls Try.prog 18 #[v1, v2] X fun y Y => y = .returned (.bool true) ∧ Below X.heap.size X Y := by
  refine (wordsL_at X v1 v2 l l k1 k2 h1 h2 hl).mono ?_
  rintro y Y ⟨rfl, b⟩
  exact ⟨by simp, b⟩
/-- what plays keeps from round to round -/
structure PlSQ (w wx : World) (B g : Nat) (P : Pa Int) (F D : Nat → Prop) (c : Array Value) : Prop where
  m : Cls wx B 44 c
  p : PsQ wx F g (mpQ P)
  d : IsD wx D c P
  dj : ∀ i, D i → ¬ F i
  bf : ¬ F B
  bd : ¬ D B
  f : ∀ i, F i → w.heap.size ≤ i
  dl : ∀ i, D i → w.heap.size ≤ i
  x : Below w.heap.size w wx
  b : w.heap.size ≤ B
theorem NowP_at (X : World) (F : Nat → Prop) (g : Nat) (p : Pa Int) (h : PsQ X F g (mpQ p)) : Calls Try.prog 23 #[.pointer (some ⟨g, 0, none⟩)] X fun y Y => y = .returned (.agg #[.int .i64 p.s, .string sS]) ∧ Below X.heap.size X Y := NowQ_at X F g (mpQ p) h
set_option maxRecDepth 100000 in
set_option maxHeartbeats 4000000 in
theorem playsGQ_at (f m : Int) (a : Option Addr) (cc : Nat) (d : List Oq) (w : World) (h : 0 ≤ m ∧ m ≤ 4096) (ho : IsQ w a d) (hl : d.length ≤ 140737488355328) (hw : ∀ o ∈ d, o.w.size ≤ 281474976710656) :
    Calls Try.prog 7 #[.int .i64 f, .int .i64 m, .slice a d.length cc, .func (.func 8) #[] #[]] w fun y Y => y = .returned (.bool true) ∧ Below w.heap.size w Y := by
  have HO := hide fun (X : World) (hx : Below w.heap.size w X) => ho.below hx (Nat.le_refl _)
  have HOK := hide fun (k : Nat) => plP_ok f m h.1 h.2 (d.take k)
  have HWS : Hid (∀ k, k < d.length → (d.getD k oqZ).w.size ≤ 281474976710656) := hide fun k hk => hw _ (by simp [List.getD, List.getElem?_eq_getElem hk])
  have HPN := hide fun (k : Nat) (hk : k < d.length) => plP_take f m d hk
  have HP0 : Hid (plP f m (d.take 0) = ⟨f, m, [], [], none⟩) := hide rfl
  have HH := hide h
  clear h ho hw
  generalize plP f m = Pf at *
  go_enter Try.func7, Try.ntmps7
  go_wp2_with fail
  refine (of2_at f w).mono ?_
  rintro y wo ⟨rfl, xo⟩
  dsimp only
  have HXO := hide xo
  clear xo
  have HC := hide (NewQ_at (f, sS) m wo (unhide HH))
  go_wp2_with fail
  refine (unhide HC).mono ?_
  rintro y w1 ⟨g, F0, rfl, i0, l0, x0⟩
  dsimp only
  have HI0 := hide i0
  have HL0 := hide l0
  have HX0 := hide ((unhide HXO).trans (x0.mono (unhide HXO).size))
  clear HC i0 x0 l0
  have HC := hide (RNew_at w1 f m (unhide HH))
  go_wp2_with fail
  refine (unhide HC).mono ?_
  rintro y w2 ⟨c, D, rfl, d2, n2, x2⟩
  dsimp only
  obtain ⟨bA, bN, bC, aA, aN, aC, oS, w0, f0, d0, rfl⟩ := d2.form
  have HM : Hid (PlSQ w (w2.alloc (.cells #[.bool false, .int .i64 f, .int .i64 m, .slice bA bN bC, .slice aA aN aC, .bool oS, .string w0, .int .i64 f0, .bool d0] 44)) w2.heap.size g ⟨f, m, [], [], none⟩ F0 D #[.bool false, .int .i64 f, .int .i64 m, .slice bA bN bC, .slice aA aN aC, .bool oS, .string w0, .int .i64 f0, .bool d0]) := hide
    ⟨Cls.new w2 _ _, ((unhide HI0).below x2).below ((Below.refl w2.heap.size w2).alloc (Nat.le_refl _) _), d2.below ((Below.refl w2.heap.size w2).alloc (Nat.le_refl _) _),
     fun i hi hf => by have := (unhide HI0).lt i hf; have := n2 i hi; omega, fun hf => by have := (unhide HI0).lt _ hf; have := x2.size; omega, fun hf => by have := d2.lt _ hf; omega,
     fun i hi => Nat.le_trans (unhide HXO).size (unhide HL0 i hi), fun i hi => Nat.le_trans (unhide HX0).size (n2 i hi),
     ((unhide HX0).trans (x2.mono (unhide HX0).size)).alloc (Nat.le_trans (unhide HX0).size x2.size) _, Nat.le_trans (unhide HX0).size x2.size⟩
  clear HC d2 n2 x2 HI0 HL0 HX0
  go_upto_region 3 with fail
  generalize w2.alloc (.cells #[.bool false, .int .i64 f, .int .i64 m, .slice bA bN bC, .slice aA aN aC, .bool oS, .string w0, .int .i64 f0, .bool d0] 44) = w3 at *
  generalize w2.heap.size = B at *
  go_wp2_with fail
  go_loopw [46] (fun v46 wx => ∃ k : Nat, v46 = .int .i64 (k : Int) ∧ k ≤ d.length ∧ ∃ F D c, Hid (PlSQ w wx B g (Pf (d.take k)) F D c)) (fun v46 _ => d.length - (intOf v46).toNat)
  case atStart => exact ⟨0, rfl, Nat.zero_le _, F0, D, _, hide (by rw [unhide HP0]; exact unhide HM)⟩
  case round =>
    obtain ⟨k, rfl, hk, F, D1, c, HS⟩ := hrel
    clear HM HP0
    by_cases hlt : k < d.length
    · have u1 : decide ((k : Int) < (d.length : Int)) = true := decide_eq_true (by omega)
      obtain ⟨ga, off, rfl, hga, c0, c1, c2⟩ := (unhide HO wr (unhide HS).x).three hlt
      have hws := unhide HWS k hlt
      have hnx := unhide HPN k hlt
      have hok := unhide HOK k
      have hok1 := unhide HOK (k + 1)
      have wk : wrap64 ((k : Int) + 1) = ((k + 1 : Nat) : Int) := by unfold wrap64; omega
      have hki : (k : Int) < (d.length : Int) := by omega
      clear HO HWS HPN HOK
      generalize d.getD k oqZ = q at *
      obtain ⟨qk, qn, qw⟩ := q
      dsimp only at c0 c1 c2 hws
      obtain ⟨bA, bN, bC, aA, aN, aC, oS, w0, f0, d0, rfl⟩ := (unhide HS).d.form
      generalize hP1 : Pf (d.take (k + 1)) = P1 at *
      generalize hP : Pf (d.take k) = P at *
      subst hnx
      have HOK1 := hide hok1
      have HOK0 := hide hok
      have HWS := hide hws
      have HP1 := hide hP1
      clear hok1 hok hws hP1 hP
      have HM := hide (unhide HS).m
      have NM := hide ((unhide HM).alloc (.cells #[.int .i64 qk, .int .i64 qn, .string qw] 48))
      have NO := hide (Cls.new wr 48 #[.int .i64 qk, .int .i64 qn, .string qw])
      clear HM
      have bA_ := (Below.refl wr.heap.size wr).alloc (Nat.le_refl _) (.cells #[.int .i64 qk, .int .i64 qn, .string qw] 48)
      have HBA := hide bA_
      clear bA_
      have hBlt : B < wr.heap.size := (unhide HS).m.lt
      go_upto_region 8 with fail
      generalize (wr.alloc (.cells #[.int .i64 qk, .int .i64 qn, .string qw] 48)) = W1 at *
      have HM := NM
      have HO := NO
      clear NM NO
      clear c0 c1 c2 hga
      have HC := hide (stepGQ_at W1 F g P D1 _ ((unhide HS).p.below (unhide HBA)) ((unhide HS).d.below (unhide HBA)) (unhide HOK0) (unhide HS).dj qk qn qw (unhide HWS))
      obtain ⟨c_M0, c_M1, c_M2, c_M3, c_M4, c_M5, c_M6, c_M7, c_M8⟩ := (unhide HM).cells9
      obtain ⟨c_O0, c_O1, c_O2⟩ := (unhide HO).cells3
      go_wp2_with fail
      refine (unhide HC).mono ?_
      rintro y w1 ⟨c1, D2, G, rfl, d1, p1, dj1, g1, n1⟩
      dsimp only
      obtain ⟨bA1, bN1, bC1, aA1, aN1, aC1, oS1, w01, f01, d01, rfl⟩ := d1.form
      clear c_M0 c_M1 c_M2 c_M3 c_M4 c_M5 c_M6 c_M7 c_M8 c_O0 c_O1 c_O2
      generalize stP P ⟨qk, qn, qw⟩ = P1 at *
      have hBw : B < w1.heap.size := Nat.lt_of_lt_of_le hBlt (Nat.le_trans (unhide HBA).size g1.kp.size)
      have hB2 : ¬ G B := g1.out (Nat.lt_of_lt_of_le hBlt (unhide HBA).size) (unhide HS).bf
      have hB3 : ¬ D2 B := fun e => by rcases n1 B e with q | q; exact (unhide HS).bd q; have := (unhide HBA).size; omega
      have NM := hide ((unhide HM).kpf g1.kp (unhide HS).bf)
      have HBX : Hid (Below w.heap.size w w1) := hide (((unhide HS).x.trans ((unhide HBA).mono (unhide HS).x.size)).trans (g1.kp.below (Nat.le_trans (unhide HS).x.size (unhide HBA).size) (unhide HS).f))
      have HGL : Hid (∀ i, G i → w.heap.size ≤ i) := hide fun i e => by rcases g1.new i e with q | q; exact (unhide HS).f i q; exact Nat.le_trans (Nat.le_trans (unhide HS).x.size (unhide HBA).size) q
      have HDL : Hid (∀ i, D2 i → w.heap.size ≤ i) := hide fun i e => by rcases n1 i e with q | q; exact (unhide HS).dl i q; exact Nat.le_trans (Nat.le_trans (unhide HS).x.size (unhide HBA).size) q
      have HB := hide (unhide HS).b
      have HD1 := hide d1
      have HP1_ := hide p1
      have HDJ := hide dj1
      have HB23 := hide (And.intro hB2 hB3)
      clear HM HO HC HS HBA g1 n1 d1 p1 dj1 hB2 hB3 hBlt
      have HM := NM
      clear NM
      have HK1 := hide (KpF.refl (fun i => i = B) w1)
      have hT : w1.heap.size ≤ w1.heap.size := Nat.le_refl _
      have NM := hide ((unhide HM).alloc (.cells #[.bool false, .int .i64 P1.s, .int .i64 P1.m, .slice bA1 bN1 bC1, .slice aA1 aN1 aC1, .bool oS1, .string w01, .int .i64 f01, .bool d01] 44))
      have NT := hide (Cls.new w1 44 #[.bool false, .int .i64 P1.s, .int .i64 P1.m, .slice bA1 bN1 bC1, .slice aA1 aN1 aC1, .bool oS1, .string w01, .int .i64 f01, .bool d01])
      have NHK1 := hide ((unhide HK1).al (.cells #[.bool false, .int .i64 P1.s, .int .i64 P1.m, .slice bA1 bN1 bC1, .slice aA1 aN1 aC1, .bool oS1, .string w01, .int .i64 f01, .bool d01] 44))
      clear HM HK1
      go_upto_region 9 with fail
      generalize (w1.alloc (.cells #[.bool false, .int .i64 P1.s, .int .i64 P1.m, .slice bA1 bN1 bC1, .slice aA1 aN1 aC1, .bool oS1, .string w01, .int .i64 f01, .bool d01] 44)) = W2 at *
      have HM := NM
      have HT := NT
      have HK1 := NHK1
      clear NM NT NHK1
      obtain ⟨c_T0, c_T1, c_T2, c_T3, c_T4, c_T5, c_T6, c_T7, c_T8⟩ := (unhide HT).cells9
      obtain ⟨c_M0, c_M1, c_M2, c_M3, c_M4, c_M5, c_M6, c_M7, c_M8⟩ := (unhide HM).cells9
      obtain ⟨zc_M0, zc_M1, zc_M2, zc_M3, zc_M4, zc_M5, zc_M6, zc_M7, zc_M8⟩ := (unhide HM).froz9
      have hMT : B ≠ w1.heap.size := by omega
      go_upto_region 10 with fail
      obtain ⟨W3, hE, NM⟩ := sto9 (unhide HM) (.bool false) (.int .i64 P1.s) (.int .i64 P1.m) (.slice bA1 bN1 bC1) (.slice aA1 aN1 aC1) (.bool oS1) (.string w01) (.int .i64 f01) (.bool d01)
      rw [hE]
      have NT : Hid (Cls W3 (w1.heap.size) 44 _) := hide (by rw [← hE]; exact Cls.oth9 (unhide HT) (by omega))
      have NHK1 : Hid (KpF _ w1 W3) := hide (by rw [← hE]; exact KpF.upd9 (unhide HK1) (.inl rfl))
      clear hE HM HT HK1
      have HM := NM
      have HT := NT
      have HK1 := NHK1
      clear NM NT NHK1
      clear c_T0 c_T1 c_T2 c_T3 c_T4 c_T5 c_T6 c_T7 c_T8 c_M0 c_M1 c_M2 c_M3 c_M4 c_M5 c_M6 c_M7 c_M8 zc_M0 zc_M1 zc_M2 zc_M3 zc_M4 zc_M5 zc_M6 zc_M7 zc_M8
      have hY : w1.heap.size < W3.heap.size := (unhide HT).lt
      have NM := hide ((unhide HM).alloc (.cells #[.int .i64 0, .string ⟨#[]⟩] 28))
      have NT := hide ((unhide HT).alloc (.cells #[.int .i64 0, .string ⟨#[]⟩] 28))
      have NY := hide (Cls.new W3 28 #[.int .i64 0, .string ⟨#[]⟩])
      have NHK1 := hide ((unhide HK1).al (.cells #[.int .i64 0, .string ⟨#[]⟩] 28))
      clear HM HT HK1
      go_upto_region 11 with fail
      generalize (W3.alloc (.cells #[.int .i64 0, .string ⟨#[]⟩] 28)) = W4 at *
      have HM := NM
      have HT := NT
      have HY := NY
      have HK1 := NHK1
      clear NM NT NY NHK1
      have c_M0 : W4.cell? ⟨B, 0, none⟩ = some (.bool false) := ((unhide HM).cell 0).trans rfl
      have c_M1 : W4.cell? ⟨B, 1, none⟩ = some (.int .i64 P1.s) := ((unhide HM).cell 1).trans rfl
      go_wp2_with fail
      refine (of2_at P1.s _).mono ?_
      rintro y wo ⟨rfl, xo⟩
      dsimp only
      have HXO := hide xo
      clear c_M0 c_M1
      have NM := hide ((unhide HM).kpf (KpF.of (F := fun _ => False) (unhide HXO)) (fun e => e))
      have NT := hide ((unhide HT).kpf (KpF.of (F := fun _ => False) (unhide HXO)) (fun e => e))
      have NY := hide ((unhide HY).kpf (KpF.of (F := fun _ => False) (unhide HXO)) (fun e => e))
      have NHK1 := hide ((unhide HK1).bel (unhide HXO))
      clear HM HT HY HK1
      have HM := NM
      have HT := NT
      have HY := NY
      have HK1 := NHK1
      clear NM NT NY NHK1
      clear xo
      obtain ⟨c_Y0, c_Y1⟩ := (unhide HY).cells2
      obtain ⟨zc_Y0, zc_Y1⟩ := (unhide HY).froz2
      go_upto_region 13 with fail
      obtain ⟨W5, hE, NY⟩ := sto2 (unhide HY) (.int .i64 P1.s) (.string sS)
      rw [hE]
      have NM : Hid (Cls W5 (B) 44 _) := hide (by rw [← hE]; exact Cls.oth2 (unhide HM) (by omega))
      have NT : Hid (Cls W5 (w1.heap.size) 44 _) := hide (by rw [← hE]; exact Cls.oth2 (unhide HT) (by omega))
      have NHK1 : Hid (KpF _ w1 W5) := hide (by rw [← hE]; exact KpF.upd2 (unhide HK1) (.inr (by first | omega | (dsimp only; omega))))
      clear hE HM HT HY HK1
      have HM := NM
      have HT := NT
      have HY := NY
      have HK1 := NHK1
      clear NM NT NY NHK1
      clear c_Y0 c_Y1 zc_Y0 zc_Y1
      have HPW := hide ((unhide HP1_).kpf (unhide HK1) (fun i e e1 => (unhide HB23).1 (e1 ▸ e)))
      have HC := hide (WordsQ_at W5 G g (mpQ P1) (unhide HPW) (mpQ_ok (unhide HOK1)).bl (mpQ_ok (unhide HOK1)).al)
      go_wp2_with fail
      refine (unhide HC).mono ?_
      rintro y w5 ⟨v1, v2, k1, k2, rfl, r1, r2, l1, l2, hne, i5, x5⟩
      dsimp only
      rw [show (mpQ P1).b.reverse.map (·.2) = P1.b.reverse.map (·.2) by simp [mpQ, mq, Function.comp_def]] at r1
      rw [show (mpQ P1).a.reverse.map (·.2) = P1.a.reverse.map (·.2) by simp [mpQ, mq, Function.comp_def]] at r2
      have HR1 := hide r1
      have HR2 := hide r2
      have HX5 := hide x5
      have HP5 := hide i5
      clear r1 r2 l1 l2 hne i5 HC HPW
      have NM := hide ((unhide HM).kpf (KpF.of (F := fun _ => False) (unhide HX5)) (fun e => e))
      have NT := hide ((unhide HT).kpf (KpF.of (F := fun _ => False) (unhide HX5)) (fun e => e))
      have NY := hide ((unhide HY).kpf (KpF.of (F := fun _ => False) (unhide HX5)) (fun e => e))
      have NHK1 := hide ((unhide HK1).bel (unhide HX5))
      clear HM HT HY HK1
      have HM := NM
      have HT := NT
      have HY := NY
      have HK1 := NHK1
      clear NM NT NY NHK1
      clear x5
      have hlb : (P1.b.reverse.map (·.2)).length ≤ 1000000 := by have := (unhide HOK1).bl; simp; omega
      have hla : (P1.a.reverse.map (·.2)).length ≤ 1000000 := by have := (unhide HOK1).al; simp; omega
      have HLB := hide hlb
      have HLA := hide hla
      clear hlb hla
      have HDD : Hid (∀ Z, KpF (fun i => i = B) w1 Z → ∃ kb ka, RD Z (.slice bA1 bN1 bC1) P1.b kb ∧ RD Z (.slice aA1 aN1 aC1) P1.a ka) := hide fun Z k => by
        obtain ⟨vb, va, kb, ka, ww, ff, dd, e, q1, q2, q3, q4⟩ := (unhide HD1).kpf k (fun i e e1 => (unhide HB23).2 (e1 ▸ e))
        simp only [Array.mk.injEq, List.cons.injEq, and_true, true_and] at e
        obtain ⟨e1, e2, e3⟩ := e
        subst e1
        subst e2
        exact ⟨kb, ka, q1, q2⟩
      go_upto_region 14 with fail
      have NM := hide ((unhide HM).kpf (kpf_drew w5) (fun e => e))
      have NT := hide ((unhide HT).kpf (kpf_drew w5) (fun e => e))
      have NY := hide ((unhide HY).kpf (kpf_drew w5) (fun e => e))
      have NHK1 := hide ((unhide HK1).trans (kpf_drew w5) (fun _ _ e => e.elim))
      clear HM HT HY HK1
      have HM := NM
      have HT := NT
      have HY := NY
      have HK1 := NHK1
      clear NM NT NY NHK1
      have NHR1 := hide ((unhide HR1).kpf (kpf_drew w5) (fun _ _ e => e))
      clear HR1
      have HR1 := NHR1
      clear NHR1
      have NHR2 := hide ((unhide HR2).kpf (kpf_drew w5) (fun _ _ e => e))
      clear HR2
      have HR2 := NHR2
      clear NHR2
      have NHP5 := hide ((unhide HP5).kpf (kpf_drew w5) (fun _ _ e => e))
      clear HP5
      have HP5 := NHP5
      clear NHP5
      have HS0 : Hid (w5.drew.cell? ⟨W3.heap.size, 0, none⟩ = some (.int .i64 P1.s) ∧ w5.drew.cell? ⟨W3.heap.size, 1, none⟩ = some (.string sS) ∧ w5.drew.cell? ⟨B, 3, none⟩ = some (.slice bA1 bN1 bC1) ∧ w5.drew.cell? ⟨B, 4, none⟩ = some (.slice aA1 aN1 aC1)) := hide ⟨((unhide HY).cell 0).trans rfl, ((unhide HY).cell 1).trans rfl, ((unhide HM).cell 3).trans rfl, ((unhide HM).cell 4).trans rfl⟩
      refine regionL (S := fun z => z.cell? ⟨W3.heap.size, 0, none⟩ = some (.int .i64 P1.s) ∧ z.cell? ⟨W3.heap.size, 1, none⟩ = some (.string sS) ∧ z.cell? ⟨B, 3, none⟩ = some (.slice bA1 bN1 bC1) ∧ z.cell? ⟨B, 4, none⟩ = some (.slice aA1 aN1 aC1)) (fun _ => false) (by kernel_rfl) ?_
      refine anyL_take (i := 0) (v := ?vq0) rfl (by kernel_rfl) (by kernel_rfl) (by kernel_rfl) (by kernel_rfl) (fun _ _ _ h => h) (Or.inl ⟨by rfl, ?hq0⟩) (unhide HS0) ?_
      case hq0 => (intro w hSw; (try dsimp only at hSw); go_simp) <;> with_reducible rfl
      simp only [Act.put, List.getElem_toArray, List.getElem_cons_zero, List.setIfInBounds_toArray, List.set_cons_zero, List.set_cons_succ]
      refine anyL_take (i := 1) (v := ?vq1) rfl (by kernel_rfl) (by kernel_rfl) (by kernel_rfl) (by kernel_rfl) (fun _ _ _ h => h) (Or.inl ⟨by rfl, ?hq1⟩) (unhide HS0) ?_
      case hq1 => (intro w hSw; (try dsimp only at hSw); go_simp) <;> with_reducible rfl
      simp only [Act.put, List.getElem_toArray, List.getElem_cons_zero, List.getElem_cons_succ, List.setIfInBounds_toArray, List.set_cons_zero, List.set_cons_succ]
      refine anyL_take (i := 2) (v := ?vq2) rfl (by kernel_rfl) (by kernel_rfl) (by kernel_rfl) (by kernel_rfl) (fun _ _ _ h => h) (Or.inl ⟨by rfl, ?hq2⟩) (unhide HS0) ?_
      case hq2 => (intro w hSw; (try dsimp only at hSw); go_simp) <;> with_reducible rfl
      simp only [Act.put, List.getElem_toArray, List.getElem_cons_zero, List.getElem_cons_succ, List.setIfInBounds_toArray, List.set_cons_zero, List.set_cons_succ]
      refine anyL_take (i := 3) (v := ?vq3) rfl (by kernel_rfl) (by kernel_rfl) (by kernel_rfl) (by kernel_rfl) (fun _ _ _ h => h) (Or.inl ⟨by rfl, ?hq3⟩) (unhide HS0) ?_
      case hq3 => (intro w hSw; (try dsimp only at hSw); go_simp) <;> with_reducible rfl
      simp only [Act.put, List.getElem_toArray, List.getElem_cons_zero, List.getElem_cons_succ, List.setIfInBounds_toArray, List.set_cons_zero, List.set_cons_succ]
      refine anyL_take (i := 5) (v := ?vq4) rfl (by kernel_rfl) (by kernel_rfl) (by kernel_rfl) (by kernel_rfl) (fun _ _ _ h => h) (Or.inl ⟨by rfl, ?hq4⟩) (unhide HS0) ?_
      case hq4 => (intro w hSw; (try dsimp only at hSw); go_simp) <;> with_reducible rfl
      simp only [Act.put, List.getElem_toArray, List.getElem_cons_zero, List.getElem_cons_succ, List.setIfInBounds_toArray, List.set_cons_zero, List.set_cons_succ]
      refine anyL_ready (rs := [4]) (by kernel_rfl) (by simp) ?_
      refine AllL.cons rfl (fun K hK => ?_) AllL.nil
      go_simp
      refine (NowP_at _ G g P1 (unhide HP5)).mono ?_
      rintro y wn ⟨rfl, xn⟩
      dsimp only
      have HXN := hide xn
      have NHR1 := hide ((unhide HR1).below (unhide HXN))
      clear HR1
      have HR1 := NHR1
      clear NHR1
      have NHR2 := hide ((unhide HR2).below (unhide HXN))
      clear HR2
      have HR2 := NHR2
      clear NHR2
      have NHP5 := hide ((unhide HP5).below (unhide HXN))
      clear HP5
      have HP5 := NHP5
      clear NHP5
      have NM := hide ((unhide HM).kpf (KpF.of (F := fun _ => False) (unhide HXN)) (fun e => e))
      have NT := hide ((unhide HT).kpf (KpF.of (F := fun _ => False) (unhide HXN)) (fun e => e))
      have NY := hide ((unhide HY).kpf (KpF.of (F := fun _ => False) (unhide HXN)) (fun e => e))
      have NHK1 := hide ((unhide HK1).bel (unhide HXN))
      clear HM HT HY HK1
      have HM := NM
      have HT := NT
      have HY := NY
      have HK1 := NHK1
      clear NM NT NY NHK1
      clear xn
      have HS0_ : Hid (wn.cell? ⟨W3.heap.size, 0, none⟩ = some (.int .i64 P1.s) ∧ wn.cell? ⟨W3.heap.size, 1, none⟩ = some (.string sS) ∧ wn.cell? ⟨B, 3, none⟩ = some (.slice bA1 bN1 bC1) ∧ wn.cell? ⟨B, 4, none⟩ = some (.slice aA1 aN1 aC1)) := hide ⟨((unhide HY).cell 0).trans rfl, ((unhide HY).cell 1).trans rfl, ((unhide HM).cell 3).trans rfl, ((unhide HM).cell 4).trans rfl⟩
      refine unhide hK _ _ (fun _ => unhide HS0_) ?_
      clear hK K
      refine anyL_take (i := 6) (v := ?vq5) rfl (by kernel_rfl) (by kernel_rfl) (by kernel_rfl) (by kernel_rfl) (fun _ _ _ h => h) (Or.inl ⟨by rfl, ?hq5⟩) (unhide HS0_) ?_
      case hq5 => (intro w hSw; (try dsimp only at hSw); go_simp) <;> with_reducible rfl
      simp only [Act.put, List.getElem_toArray, List.getElem_cons_zero, List.getElem_cons_succ, List.setIfInBounds_toArray, List.set_cons_zero, List.set_cons_succ]
      refine anyL_take (i := 7) (v := ?vq6) rfl (by kernel_rfl) (by kernel_rfl) (by kernel_rfl) (by kernel_rfl) (fun _ _ _ h => h) (Or.inl ⟨by rfl, ?hq6⟩) (unhide HS0_) ?_
      case hq6 => (intro w hSw; (try dsimp only at hSw); go_simp) <;> with_reducible rfl
      simp only [Act.put, List.getElem_toArray, List.getElem_cons_zero, List.getElem_cons_succ, List.setIfInBounds_toArray, List.set_cons_zero, List.set_cons_succ]
      refine anyL_take (i := 8) (v := ?vq7) rfl (by kernel_rfl) (by kernel_rfl) (by kernel_rfl) (by kernel_rfl) (fun _ _ _ h => h) (Or.inl ⟨by rfl, ?hq7⟩) (unhide HS0_) ?_
      case hq7 => (intro w hSw; (try dsimp only at hSw); go_simp) <;> with_reducible rfl
      simp only [Act.put, List.getElem_toArray, List.getElem_cons_zero, List.getElem_cons_succ, List.setIfInBounds_toArray, List.set_cons_zero, List.set_cons_succ]
      refine anyL_take (i := 9) (v := ?vq8) rfl (by kernel_rfl) (by kernel_rfl) (by kernel_rfl) (by kernel_rfl) (fun _ _ _ h => h) (Or.inl ⟨by rfl, ?hq8⟩) (unhide HS0_) ?_
      case hq8 => (intro w hSw; (try dsimp only at hSw); go_simp) <;> with_reducible rfl
      simp only [Act.put, List.getElem_toArray, List.getElem_cons_zero, List.getElem_cons_succ, List.setIfInBounds_toArray, List.set_cons_zero, List.set_cons_succ]
      refine anyL_take (i := 10) (v := ?vq9) rfl (by kernel_rfl) (by kernel_rfl) (by kernel_rfl) (by kernel_rfl) (fun _ _ _ h => h) (Or.inl ⟨by rfl, ?hq9⟩) (unhide HS0_) ?_
      case hq9 => (intro w hSw; (try dsimp only at hSw); go_simp) <;> with_reducible rfl
      simp only [Act.put, List.getElem_toArray, List.getElem_cons_zero, List.getElem_cons_succ, List.setIfInBounds_toArray, List.set_cons_zero, List.set_cons_succ]
      refine anyL_take (i := 11) (v := ?vq10) rfl (by kernel_rfl) (by kernel_rfl) (by kernel_rfl) (by kernel_rfl) (fun _ _ _ h => h) (Or.inl ⟨by rfl, ?hq10⟩) (unhide HS0_) ?_
      case hq10 => (intro w hSw; (try dsimp only at hSw); go_simp) <;> with_reducible rfl
      simp only [Act.put, List.getElem_toArray, List.getElem_cons_zero, List.getElem_cons_succ, List.setIfInBounds_toArray, List.set_cons_zero, List.set_cons_succ]
      refine anyL_ready (rs := [12]) (by kernel_rfl) (by simp) ?_
      refine AllL.cons rfl (fun K hK => ?_) AllL.nil
      go_simp
      obtain ⟨kbb, kab, qbb, qab⟩ := unhide HDD _ (unhide HK1)
      refine (RWords_at wn _ P1.b _ qbb (unhide HOK1).bl).mono ?_
      rintro y ub ⟨vb, kkb, rfl, rb, lb, xb⟩
      dsimp only
      have HXb := hide xb
      have HVb := hide rb
      clear qbb qab lb rb
      have NHR1 := hide ((unhide HR1).below (unhide HXb))
      clear HR1
      have HR1 := NHR1
      clear NHR1
      have NHR2 := hide ((unhide HR2).below (unhide HXb))
      clear HR2
      have HR2 := NHR2
      clear NHR2
      have NHP5 := hide ((unhide HP5).below (unhide HXb))
      clear HP5
      have HP5 := NHP5
      clear NHP5
      have NM := hide ((unhide HM).kpf (KpF.of (F := fun _ => False) (unhide HXb)) (fun e => e))
      have NT := hide ((unhide HT).kpf (KpF.of (F := fun _ => False) (unhide HXb)) (fun e => e))
      have NY := hide ((unhide HY).kpf (KpF.of (F := fun _ => False) (unhide HXb)) (fun e => e))
      have NHK1 := hide ((unhide HK1).bel (unhide HXb))
      clear HM HT HY HK1
      have HM := NM
      have HT := NT
      have HY := NY
      have HK1 := NHK1
      clear NM NT NY NHK1
      clear xb
      have HS1_ : Hid (ub.cell? ⟨W3.heap.size, 0, none⟩ = some (.int .i64 P1.s) ∧ ub.cell? ⟨W3.heap.size, 1, none⟩ = some (.string sS) ∧ ub.cell? ⟨B, 3, none⟩ = some (.slice bA1 bN1 bC1) ∧ ub.cell? ⟨B, 4, none⟩ = some (.slice aA1 aN1 aC1)) := hide ⟨((unhide HY).cell 0).trans rfl, ((unhide HY).cell 1).trans rfl, ((unhide HM).cell 3).trans rfl, ((unhide HM).cell 4).trans rfl⟩
      refine unhide hK _ _ (fun _ => unhide HS1_) ?_
      clear hK K
      refine anyL_ready (rs := [13]) (by kernel_rfl) (by simp) ?_
      refine AllL.cons rfl (fun K hK => ?_) AllL.nil
      go_simp
      refine (wordsTQ_at ub v1 vb _ _ _ (unhide HR1) (unhide HVb) (unhide HLB)).mono ?_
      rintro y yb ⟨rfl, zb⟩
      dsimp only
      have HZb := hide zb
      have NHR1 := hide ((unhide HR1).below (unhide HZb))
      clear HR1
      have HR1 := NHR1
      clear NHR1
      have NHR2 := hide ((unhide HR2).below (unhide HZb))
      clear HR2
      have HR2 := NHR2
      clear NHR2
      have NHP5 := hide ((unhide HP5).below (unhide HZb))
      clear HP5
      have HP5 := NHP5
      clear NHP5
      have NM := hide ((unhide HM).kpf (KpF.of (F := fun _ => False) (unhide HZb)) (fun e => e))
      have NT := hide ((unhide HT).kpf (KpF.of (F := fun _ => False) (unhide HZb)) (fun e => e))
      have NY := hide ((unhide HY).kpf (KpF.of (F := fun _ => False) (unhide HZb)) (fun e => e))
      have NHK1 := hide ((unhide HK1).bel (unhide HZb))
      clear HM HT HY HK1
      have HM := NM
      have HT := NT
      have HY := NY
      have HK1 := NHK1
      clear NM NT NY NHK1
      clear zb
      have HS2_ : Hid (yb.cell? ⟨W3.heap.size, 0, none⟩ = some (.int .i64 P1.s) ∧ yb.cell? ⟨W3.heap.size, 1, none⟩ = some (.string sS) ∧ yb.cell? ⟨B, 3, none⟩ = some (.slice bA1 bN1 bC1) ∧ yb.cell? ⟨B, 4, none⟩ = some (.slice aA1 aN1 aC1)) := hide ⟨((unhide HY).cell 0).trans rfl, ((unhide HY).cell 1).trans rfl, ((unhide HM).cell 3).trans rfl, ((unhide HM).cell 4).trans rfl⟩
      refine unhide hK _ _ (fun _ => unhide HS2_) ?_
      clear hK K
      refine anyL_take (i := 14) (v := ?vq11) rfl (by kernel_rfl) (by kernel_rfl) (by kernel_rfl) (by kernel_rfl) (fun _ _ _ h => h) (Or.inl ⟨by rfl, ?hq11⟩) (unhide HS2_) ?_
      case hq11 => (intro w hSw; (try dsimp only at hSw); go_simp) <;> with_reducible rfl
      simp only [Act.put, List.getElem_toArray, List.getElem_cons_zero, List.getElem_cons_succ, List.setIfInBounds_toArray, List.set_cons_zero, List.set_cons_succ]
      refine anyL_take (i := 15) (v := ?vq12) rfl (by kernel_rfl) (by kernel_rfl) (by kernel_rfl) (by kernel_rfl) (fun _ _ _ h => h) (Or.inl ⟨by rfl, ?hq12⟩) (unhide HS2_) ?_
      case hq12 => (intro w hSw; (try dsimp only at hSw); go_simp) <;> with_reducible rfl
      simp only [Act.put, List.getElem_toArray, List.getElem_cons_zero, List.getElem_cons_succ, List.setIfInBounds_toArray, List.set_cons_zero, List.set_cons_succ]
      refine anyL_take (i := 16) (v := ?vq13) rfl (by kernel_rfl) (by kernel_rfl) (by kernel_rfl) (by kernel_rfl) (fun _ _ _ h => h) (Or.inl ⟨by rfl, ?hq13⟩) (unhide HS2_) ?_
      case hq13 => (intro w hSw; (try dsimp only at hSw); go_simp) <;> with_reducible rfl
      simp only [Act.put, List.getElem_toArray, List.getElem_cons_zero, List.getElem_cons_succ, List.setIfInBounds_toArray, List.set_cons_zero, List.set_cons_succ]
      refine anyL_take (i := 17) (v := ?vq14) rfl (by kernel_rfl) (by kernel_rfl) (by kernel_rfl) (by kernel_rfl) (fun _ _ _ h => h) (Or.inl ⟨by rfl, ?hq14⟩) (unhide HS2_) ?_
      case hq14 => (intro w hSw; (try dsimp only at hSw); go_simp) <;> with_reducible rfl
      simp only [Act.put, List.getElem_toArray, List.getElem_cons_zero, List.getElem_cons_succ, List.setIfInBounds_toArray, List.set_cons_zero, List.set_cons_succ]
      refine anyL_take (i := 18) (v := ?vq15) rfl (by kernel_rfl) (by kernel_rfl) (by kernel_rfl) (by kernel_rfl) (fun _ _ _ h => h) (Or.inl ⟨by rfl, ?hq15⟩) (unhide HS2_) ?_
      case hq15 => (intro w hSw; (try dsimp only at hSw); go_simp) <;> with_reducible rfl
      simp only [Act.put, List.getElem_toArray, List.getElem_cons_zero, List.getElem_cons_succ, List.setIfInBounds_toArray, List.set_cons_zero, List.set_cons_succ]
      refine anyL_take (i := 19) (v := ?vq16) rfl (by kernel_rfl) (by kernel_rfl) (by kernel_rfl) (by kernel_rfl) (fun _ _ _ h => h) (Or.inl ⟨by rfl, ?hq16⟩) (unhide HS2_) ?_
      case hq16 => (intro w hSw; (try dsimp only at hSw); go_simp) <;> with_reducible rfl
      simp only [Act.put, List.getElem_toArray, List.getElem_cons_zero, List.getElem_cons_succ, List.setIfInBounds_toArray, List.set_cons_zero, List.set_cons_succ]
      refine anyL_ready (rs := [20]) (by kernel_rfl) (by simp) ?_
      refine AllL.cons rfl (fun K hK => ?_) AllL.nil
      go_simp
      obtain ⟨kba, kaa, qba, qaa⟩ := unhide HDD _ (unhide HK1)
      refine (RWords_at yb _ P1.a _ qaa (unhide HOK1).al).mono ?_
      rintro y ua ⟨va, kka, rfl, ra, la, xa⟩
      dsimp only
      have HXa := hide xa
      have HVa := hide ra
      clear qba qaa la ra
      have NHR1 := hide ((unhide HR1).below (unhide HXa))
      clear HR1
      have HR1 := NHR1
      clear NHR1
      have NHR2 := hide ((unhide HR2).below (unhide HXa))
      clear HR2
      have HR2 := NHR2
      clear NHR2
      have NHP5 := hide ((unhide HP5).below (unhide HXa))
      clear HP5
      have HP5 := NHP5
      clear NHP5
      have NM := hide ((unhide HM).kpf (KpF.of (F := fun _ => False) (unhide HXa)) (fun e => e))
      have NT := hide ((unhide HT).kpf (KpF.of (F := fun _ => False) (unhide HXa)) (fun e => e))
      have NY := hide ((unhide HY).kpf (KpF.of (F := fun _ => False) (unhide HXa)) (fun e => e))
      have NHK1 := hide ((unhide HK1).bel (unhide HXa))
      clear HM HT HY HK1
      have HM := NM
      have HT := NT
      have HY := NY
      have HK1 := NHK1
      clear NM NT NY NHK1
      clear xa
      have HS3_ : Hid (ua.cell? ⟨W3.heap.size, 0, none⟩ = some (.int .i64 P1.s) ∧ ua.cell? ⟨W3.heap.size, 1, none⟩ = some (.string sS) ∧ ua.cell? ⟨B, 3, none⟩ = some (.slice bA1 bN1 bC1) ∧ ua.cell? ⟨B, 4, none⟩ = some (.slice aA1 aN1 aC1)) := hide ⟨((unhide HY).cell 0).trans rfl, ((unhide HY).cell 1).trans rfl, ((unhide HM).cell 3).trans rfl, ((unhide HM).cell 4).trans rfl⟩
      refine unhide hK _ _ (fun _ => unhide HS3_) ?_
      clear hK K
      refine anyL_ready (rs := [21]) (by kernel_rfl) (by simp) ?_
      refine AllL.cons rfl (fun K hK => ?_) AllL.nil
      go_simp
      refine (wordsTQ_at ua v2 va _ _ _ (unhide HR2) (unhide HVa) (unhide HLA)).mono ?_
      rintro y ya ⟨rfl, za⟩
      dsimp only
      have HZa := hide za
      have NHR1 := hide ((unhide HR1).below (unhide HZa))
      clear HR1
      have HR1 := NHR1
      clear NHR1
      have NHR2 := hide ((unhide HR2).below (unhide HZa))
      clear HR2
      have HR2 := NHR2
      clear NHR2
      have NHP5 := hide ((unhide HP5).below (unhide HZa))
      clear HP5
      have HP5 := NHP5
      clear NHP5
      have NM := hide ((unhide HM).kpf (KpF.of (F := fun _ => False) (unhide HZa)) (fun e => e))
      have NT := hide ((unhide HT).kpf (KpF.of (F := fun _ => False) (unhide HZa)) (fun e => e))
      have NY := hide ((unhide HY).kpf (KpF.of (F := fun _ => False) (unhide HZa)) (fun e => e))
      have NHK1 := hide ((unhide HK1).bel (unhide HZa))
      clear HM HT HY HK1
      have HM := NM
      have HT := NT
      have HY := NY
      have HK1 := NHK1
      clear NM NT NY NHK1
      clear za
      have HS4_ : Hid (ya.cell? ⟨W3.heap.size, 0, none⟩ = some (.int .i64 P1.s) ∧ ya.cell? ⟨W3.heap.size, 1, none⟩ = some (.string sS) ∧ ya.cell? ⟨B, 3, none⟩ = some (.slice bA1 bN1 bC1) ∧ ya.cell? ⟨B, 4, none⟩ = some (.slice aA1 aN1 aC1)) := hide ⟨((unhide HY).cell 0).trans rfl, ((unhide HY).cell 1).trans rfl, ((unhide HM).cell 3).trans rfl, ((unhide HM).cell 4).trans rfl⟩
      refine unhide hK _ _ (fun _ => unhide HS4_) ?_
      clear hK K
      refine anyL_take (i := 22) (v := ?vq17) rfl (by kernel_rfl) (by kernel_rfl) (by kernel_rfl) (by kernel_rfl) (fun _ _ _ h => h) (Or.inl ⟨by rfl, ?hq17⟩) (unhide HS4_) ?_
      case hq17 => (intro w hSw; (try dsimp only at hSw); go_simp) <;> with_reducible rfl
      simp only [Act.put, List.getElem_toArray, List.getElem_cons_zero, List.getElem_cons_succ, List.setIfInBounds_toArray, List.set_cons_zero, List.set_cons_succ]
      refine anyL_take (i := 23) (v := ?vq18) rfl (by kernel_rfl) (by kernel_rfl) (by kernel_rfl) (by kernel_rfl) (fun _ _ _ h => h) (Or.inl ⟨by rfl, ?hq18⟩) (unhide HS4_) ?_
      case hq18 => (intro w hSw; (try dsimp only at hSw); go_simp) <;> with_reducible rfl
      simp only [Act.put, List.getElem_toArray, List.getElem_cons_zero, List.getElem_cons_succ, List.setIfInBounds_toArray, List.set_cons_zero, List.set_cons_succ]
      refine anyL_done (by kernel_rfl) ?_ _
      have HE : Hid (PlSQ w ya B g P1 G D2 #[.bool false, .int .i64 P1.s, .int .i64 P1.m, .slice bA1 bN1 bC1, .slice aA1 aN1 aC1, .bool oS1, .string w01, .int .i64 f01, .bool d01]) := hide ⟨unhide HM, unhide HP5, (unhide HD1).kpf (unhide HK1) (fun i e e1 => (unhide HB23).2 (e1 ▸ e)), unhide HDJ, (unhide HB23).1, (unhide HB23).2, unhide HGL, unhide HDL, (unhide HBX).trans ((unhide HK1).below (unhide HBX).size (fun i e => e ▸ unhide HB)), unhide HB⟩
      go_wp2_with fail
      go_roundw
      case rel => exact ⟨k + 1, by first | rfl | rw [wk], hlt, G, D2, _, by rw [unhide HP1]; exact HE⟩
      case measure => simp [intOf]; omega
    · obtain rfl : k = d.length := by omega
      have u1 : decide ((d.length : Int) < (d.length : Int)) = false := decide_eq_false (by omega)
      have HX := hide (unhide HS).x
      clear HO HWS HPN HOK HS
      go_wp2_with fail
      exact bodyPost_ret (results_tmp rfl _ _ _) rfl ⟨rfl, unhide HX⟩
set_option maxRecDepth 100000 in
set_option maxHeartbeats 4000000 in
theorem playsBQ_at (f m : Int) (a : Option Addr) (cc : Nat) (d : List Oq) (w : World) (h : ¬ (0 ≤ m ∧ m ≤ 4096)) (ho : IsQ w a d) (hl : d.length ≤ 140737488355328) :
    Calls Try.prog 7 #[.int .i64 f, .int .i64 m, .slice a d.length cc, .func (.func 8) #[] #[]] w fun y Y => y = .returned (.bool true) ∧ Below w.heap.size w Y := by
  have HO := hide fun (X : World) (hx : Below w.heap.size w X) => ho.below hx (Nat.le_refl _)
  have HH := hide h
  clear h ho
  go_enter Try.func7, Try.ntmps7
  go_wp2_with fail
  refine (of2_at f w).mono ?_
  rintro y wo ⟨rfl, xo⟩
  dsimp only
  have HXO := hide xo
  clear xo
  have HC := hide (NewEQ_at (f, sS) m wo (unhide HH))
  go_wp2_with fail
  refine (unhide HC).mono ?_
  rintro y w1 ⟨rfl, x0⟩
  dsimp only
  have HX0 := hide ((unhide HXO).trans (x0.mono (unhide HXO).size))
  clear HC x0
  have HC := hide (RNewB_at w1 f m (unhide HH))
  unfold cBad at HC
  go_wp2_with fail
  refine (unhide HC).mono ?_
  rintro y w2 ⟨rfl, x2⟩
  dsimp only
  have HM := hide (And.intro (Cls.new w2 44 #[.bool true, .int .i64 0, .int .i64 0, .slice none 0 0, .slice none 0 0, .bool false, .string ⟨#[]⟩, .int .i64 0, .bool false]) (And.intro (((unhide HX0).trans (x2.mono (unhide HX0).size)).alloc (Nat.le_trans (unhide HX0).size x2.size) (.cells #[.bool true, .int .i64 0, .int .i64 0, .slice none 0 0, .slice none 0 0, .bool false, .string ⟨#[]⟩, .int .i64 0, .bool false] 44)) (Nat.le_trans (unhide HX0).size x2.size)))
  clear HC x2 HX0
  go_upto_region 3 with fail
  generalize w2.alloc (.cells #[.bool true, .int .i64 0, .int .i64 0, .slice none 0 0, .slice none 0 0, .bool false, .string ⟨#[]⟩, .int .i64 0, .bool false] 44) = w3 at *
  generalize w2.heap.size = B at *
  go_wp2_with fail
  go_loopw [46] (fun v46 wx => ∃ k : Nat, v46 = .int .i64 (k : Int) ∧ k ≤ d.length ∧ Hid (Cls wx B 44 #[.bool true, .int .i64 0, .int .i64 0, .slice none 0 0, .slice none 0 0, .bool false, .string ⟨#[]⟩, .int .i64 0, .bool false] ∧ Below w.heap.size w wx ∧ w.heap.size ≤ B)) (fun v46 _ => d.length - (intOf v46).toNat)
  case atStart => exact ⟨0, rfl, Nat.zero_le _, HM⟩
  case round =>
    obtain ⟨k, rfl, hk, HS⟩ := hrel
    clear HM
    by_cases hlt : k < d.length
    · have u1 : decide ((k : Int) < (d.length : Int)) = true := decide_eq_true (by omega)
      obtain ⟨ga, off, rfl, hga, c0, c1, c2⟩ := (unhide HO wr (unhide HS).2.1).three hlt
      have wk : wrap64 ((k : Int) + 1) = ((k + 1 : Nat) : Int) := by unfold wrap64; omega
      have hki : (k : Int) < (d.length : Int) := by omega
      clear HO
      generalize d.getD k oqZ = q at *
      obtain ⟨qk, qn, qw⟩ := q
      dsimp only at c0 c1 c2
      have HM := hide (unhide HS).1
      have HK1 := hide (KpF.refl (fun i => i = B) wr)
      have hBlt : B < wr.heap.size := (unhide HS).1.lt
      have hO : wr.heap.size ≤ wr.heap.size := Nat.le_refl _
      have NM := hide ((unhide HM).alloc (.cells #[.int .i64 qk, .int .i64 qn, .string qw] 48))
      have NO := hide (Cls.new wr 48 #[.int .i64 qk, .int .i64 qn, .string qw])
      have NHK1 := hide ((unhide HK1).al (.cells #[.int .i64 qk, .int .i64 qn, .string qw] 48))
      clear HM HK1
      go_upto_region 8 with fail
      generalize (wr.alloc (.cells #[.int .i64 qk, .int .i64 qn, .string qw] 48)) = W1 at *
      have HM := NM
      have HO := NO
      have HK1 := NHK1
      clear NM NO NHK1
      clear c0 c1 c2 hga
      have HC := hide (stepNQ_at W1 qk qn qw)
      unfold cBad at HC
      obtain ⟨c_M0, c_M1, c_M2, c_M3, c_M4, c_M5, c_M6, c_M7, c_M8⟩ := (unhide HM).cells9
      obtain ⟨c_O0, c_O1, c_O2⟩ := (unhide HO).cells3
      go_wp2_with fail
      refine (unhide HC).mono ?_
      rintro y w1 ⟨rfl, x1⟩
      dsimp only
      have HX1 := hide x1
      clear HC
      clear c_M0 c_M1 c_M2 c_M3 c_M4 c_M5 c_M6 c_M7 c_M8 c_O0 c_O1 c_O2
      have NM := hide ((unhide HM).kpf (KpF.of (F := fun _ => False) (unhide HX1)) (fun e => e))
      have NO := hide ((unhide HO).kpf (KpF.of (F := fun _ => False) (unhide HX1)) (fun e => e))
      have NHK1 := hide ((unhide HK1).bel (unhide HX1))
      clear HM HO HK1
      have HM := NM
      have HO := NO
      have HK1 := NHK1
      clear NM NO NHK1
      clear x1
      have hT : wr.heap.size < w1.heap.size := (unhide HO).lt
      have NM := hide ((unhide HM).alloc (.cells #[.bool true, .int .i64 0, .int .i64 0, .slice none 0 0, .slice none 0 0, .bool false, .string ⟨#[]⟩, .int .i64 0, .bool false] 44))
      have NO := hide ((unhide HO).alloc (.cells #[.bool true, .int .i64 0, .int .i64 0, .slice none 0 0, .slice none 0 0, .bool false, .string ⟨#[]⟩, .int .i64 0, .bool false] 44))
      have NT := hide (Cls.new w1 44 #[.bool true, .int .i64 0, .int .i64 0, .slice none 0 0, .slice none 0 0, .bool false, .string ⟨#[]⟩, .int .i64 0, .bool false])
      have NHK1 := hide ((unhide HK1).al (.cells #[.bool true, .int .i64 0, .int .i64 0, .slice none 0 0, .slice none 0 0, .bool false, .string ⟨#[]⟩, .int .i64 0, .bool false] 44))
      clear HM HO HK1
      go_upto_region 9 with fail
      generalize (w1.alloc (.cells #[.bool true, .int .i64 0, .int .i64 0, .slice none 0 0, .slice none 0 0, .bool false, .string ⟨#[]⟩, .int .i64 0, .bool false] 44)) = W2 at *
      have HM := NM
      have HO := NO
      have HT := NT
      have HK1 := NHK1
      clear NM NO NT NHK1
      obtain ⟨c_T0, c_T1, c_T2, c_T3, c_T4, c_T5, c_T6, c_T7, c_T8⟩ := (unhide HT).cells9
      obtain ⟨c_M0, c_M1, c_M2, c_M3, c_M4, c_M5, c_M6, c_M7, c_M8⟩ := (unhide HM).cells9
      obtain ⟨zc_M0, zc_M1, zc_M2, zc_M3, zc_M4, zc_M5, zc_M6, zc_M7, zc_M8⟩ := (unhide HM).froz9
      go_upto_region 10 with fail
      obtain ⟨W3, hE, NM⟩ := sto9 (unhide HM) (.bool true) (.int .i64 0) (.int .i64 0) (.slice none 0 0) (.slice none 0 0) (.bool false) (.string ⟨#[]⟩) (.int .i64 0) (.bool false)
      rw [hE]
      have NO : Hid (Cls W3 (wr.heap.size) 48 _) := hide (by rw [← hE]; exact Cls.oth9 (unhide HO) (by omega))
      have NT : Hid (Cls W3 (w1.heap.size) 44 _) := hide (by rw [← hE]; exact Cls.oth9 (unhide HT) (by omega))
      have NHK1 : Hid (KpF _ wr W3) := hide (by rw [← hE]; exact KpF.upd9 (unhide HK1) (.inl rfl))
      clear hE HM HO HT HK1
      have HM := NM
      have HO := NO
      have HT := NT
      have HK1 := NHK1
      clear NM NO NT NHK1
      clear c_T0 c_T1 c_T2 c_T3 c_T4 c_T5 c_T6 c_T7 c_T8 c_M0 c_M1 c_M2 c_M3 c_M4 c_M5 c_M6 c_M7 c_M8 zc_M0 zc_M1 zc_M2 zc_M3 zc_M4 zc_M5 zc_M6 zc_M7 zc_M8
      have hY : w1.heap.size < W3.heap.size := (unhide HT).lt
      have NM := hide ((unhide HM).alloc (.cells #[.int .i64 0, .string ⟨#[]⟩] 28))
      have NO := hide ((unhide HO).alloc (.cells #[.int .i64 0, .string ⟨#[]⟩] 28))
      have NT := hide ((unhide HT).alloc (.cells #[.int .i64 0, .string ⟨#[]⟩] 28))
      have NY := hide (Cls.new W3 28 #[.int .i64 0, .string ⟨#[]⟩])
      have NHK1 := hide ((unhide HK1).al (.cells #[.int .i64 0, .string ⟨#[]⟩] 28))
      clear HM HO HT HK1
      go_upto_region 11 with fail
      generalize (W3.alloc (.cells #[.int .i64 0, .string ⟨#[]⟩] 28)) = W4 at *
      have HM := NM
      have HO := NO
      have HT := NT
      have HY := NY
      have HK1 := NHK1
      clear NM NO NT NY NHK1
      have c_M0 : W4.cell? ⟨B, 0, none⟩ = some (.bool true) := ((unhide HM).cell 0).trans rfl
      have HC := hide (WordsNQ_at W4)
      go_wp2_with fail
      refine (unhide HC).mono ?_
      rintro y w5 ⟨rfl, e5⟩
      subst e5
      dsimp only
      clear HC
      clear c_M0
      go_upto_region 14 with fail
      have NM := hide ((unhide HM).kpf (kpf_drew w5) (fun e => e))
      have NO := hide ((unhide HO).kpf (kpf_drew w5) (fun e => e))
      have NT := hide ((unhide HT).kpf (kpf_drew w5) (fun e => e))
      have NY := hide ((unhide HY).kpf (kpf_drew w5) (fun e => e))
      have NHK1 := hide ((unhide HK1).trans (kpf_drew w5) (fun _ _ e => e.elim))
      clear HM HO HT HY HK1
      have HM := NM
      have HO := NO
      have HT := NT
      have HY := NY
      have HK1 := NHK1
      clear NM NO NT NY NHK1
      have HS0 : Hid (w5.drew.cell? ⟨W3.heap.size, 0, none⟩ = some (.int .i64 0) ∧ w5.drew.cell? ⟨W3.heap.size, 1, none⟩ = some (.string ⟨#[]⟩) ∧ w5.drew.cell? ⟨B, 3, none⟩ = some (.slice none 0 0) ∧ w5.drew.cell? ⟨B, 4, none⟩ = some (.slice none 0 0)) := hide ⟨((unhide HY).cell 0).trans rfl, ((unhide HY).cell 1).trans rfl, ((unhide HM).cell 3).trans rfl, ((unhide HM).cell 4).trans rfl⟩
      refine regionL (S := fun z => z.cell? ⟨W3.heap.size, 0, none⟩ = some (.int .i64 0) ∧ z.cell? ⟨W3.heap.size, 1, none⟩ = some (.string ⟨#[]⟩) ∧ z.cell? ⟨B, 3, none⟩ = some (.slice none 0 0) ∧ z.cell? ⟨B, 4, none⟩ = some (.slice none 0 0)) (fun _ => false) (by kernel_rfl) ?_
      refine anyL_take (i := 0) (v := ?vq19) rfl (by kernel_rfl) (by kernel_rfl) (by kernel_rfl) (by kernel_rfl) (fun _ _ _ h => h) (Or.inl ⟨by rfl, ?hq19⟩) (unhide HS0) ?_
      case hq19 => (intro w hSw; (try dsimp only at hSw); go_simp) <;> with_reducible rfl
      simp only [Act.put, List.getElem_toArray, List.getElem_cons_zero, List.setIfInBounds_toArray, List.set_cons_zero, List.set_cons_succ]
      refine anyL_take (i := 1) (v := ?vq20) rfl (by kernel_rfl) (by kernel_rfl) (by kernel_rfl) (by kernel_rfl) (fun _ _ _ h => h) (Or.inl ⟨by rfl, ?hq20⟩) (unhide HS0) ?_
      case hq20 => (intro w hSw; (try dsimp only at hSw); go_simp) <;> with_reducible rfl
      simp only [Act.put, List.getElem_toArray, List.getElem_cons_zero, List.getElem_cons_succ, List.setIfInBounds_toArray, List.set_cons_zero, List.set_cons_succ]
      refine anyL_take (i := 2) (v := ?vq21) rfl (by kernel_rfl) (by kernel_rfl) (by kernel_rfl) (by kernel_rfl) (fun _ _ _ h => h) (Or.inl ⟨by rfl, ?hq21⟩) (unhide HS0) ?_
      case hq21 => (intro w hSw; (try dsimp only at hSw); go_simp) <;> with_reducible rfl
      simp only [Act.put, List.getElem_toArray, List.getElem_cons_zero, List.getElem_cons_succ, List.setIfInBounds_toArray, List.set_cons_zero, List.set_cons_succ]
      refine anyL_take (i := 3) (v := ?vq22) rfl (by kernel_rfl) (by kernel_rfl) (by kernel_rfl) (by kernel_rfl) (fun _ _ _ h => h) (Or.inl ⟨by rfl, ?hq22⟩) (unhide HS0) ?_
      case hq22 => (intro w hSw; (try dsimp only at hSw); go_simp) <;> with_reducible rfl
      simp only [Act.put, List.getElem_toArray, List.getElem_cons_zero, List.getElem_cons_succ, List.setIfInBounds_toArray, List.set_cons_zero, List.set_cons_succ]
      refine anyL_take (i := 5) (v := ?vq23) rfl (by kernel_rfl) (by kernel_rfl) (by kernel_rfl) (by kernel_rfl) (fun _ _ _ h => h) (Or.inl ⟨by rfl, ?hq23⟩) (unhide HS0) ?_
      case hq23 => (intro w hSw; (try dsimp only at hSw); go_simp) <;> with_reducible rfl
      simp only [Act.put, List.getElem_toArray, List.getElem_cons_zero, List.getElem_cons_succ, List.setIfInBounds_toArray, List.set_cons_zero, List.set_cons_succ]
      refine anyL_ready (rs := [4]) (by kernel_rfl) (by simp) ?_
      refine AllL.cons rfl (fun K hK => ?_) AllL.nil
      go_simp
      refine (NowNQ_at _).mono ?_
      rintro y wn ⟨rfl, xn⟩
      dsimp only
      have HXN := hide xn
      have NM := hide ((unhide HM).kpf (KpF.of (F := fun _ => False) (unhide HXN)) (fun e => e))
      have NO := hide ((unhide HO).kpf (KpF.of (F := fun _ => False) (unhide HXN)) (fun e => e))
      have NT := hide ((unhide HT).kpf (KpF.of (F := fun _ => False) (unhide HXN)) (fun e => e))
      have NY := hide ((unhide HY).kpf (KpF.of (F := fun _ => False) (unhide HXN)) (fun e => e))
      have NHK1 := hide ((unhide HK1).bel (unhide HXN))
      clear HM HO HT HY HK1
      have HM := NM
      have HO := NO
      have HT := NT
      have HY := NY
      have HK1 := NHK1
      clear NM NO NT NY NHK1
      clear xn
      have HS0_ : Hid (wn.cell? ⟨W3.heap.size, 0, none⟩ = some (.int .i64 0) ∧ wn.cell? ⟨W3.heap.size, 1, none⟩ = some (.string ⟨#[]⟩) ∧ wn.cell? ⟨B, 3, none⟩ = some (.slice none 0 0) ∧ wn.cell? ⟨B, 4, none⟩ = some (.slice none 0 0)) := hide ⟨((unhide HY).cell 0).trans rfl, ((unhide HY).cell 1).trans rfl, ((unhide HM).cell 3).trans rfl, ((unhide HM).cell 4).trans rfl⟩
      refine unhide hK _ _ (fun _ => unhide HS0_) ?_
      clear hK K
      refine anyL_take (i := 6) (v := ?vq24) rfl (by kernel_rfl) (by kernel_rfl) (by kernel_rfl) (by kernel_rfl) (fun _ _ _ h => h) (Or.inl ⟨by rfl, ?hq24⟩) (unhide HS0_) ?_
      case hq24 => (intro w hSw; (try dsimp only at hSw); go_simp) <;> with_reducible rfl
      simp only [Act.put, List.getElem_toArray, List.getElem_cons_zero, List.getElem_cons_succ, List.setIfInBounds_toArray, List.set_cons_zero, List.set_cons_succ]
      refine anyL_take (i := 7) (v := ?vq25) rfl (by kernel_rfl) (by kernel_rfl) (by kernel_rfl) (by kernel_rfl) (fun _ _ _ h => h) (Or.inl ⟨by rfl, ?hq25⟩) (unhide HS0_) ?_
      case hq25 => (intro w hSw; (try dsimp only at hSw); go_simp) <;> with_reducible rfl
      simp only [Act.put, List.getElem_toArray, List.getElem_cons_zero, List.getElem_cons_succ, List.setIfInBounds_toArray, List.set_cons_zero, List.set_cons_succ]
      refine anyL_take (i := 8) (v := ?vq26) rfl (by kernel_rfl) (by kernel_rfl) (by kernel_rfl) (by kernel_rfl) (fun _ _ _ h => h) (Or.inl ⟨by rfl, ?hq26⟩) (unhide HS0_) ?_
      case hq26 => (intro w hSw; (try dsimp only at hSw); go_simp) <;> with_reducible rfl
      simp only [Act.put, List.getElem_toArray, List.getElem_cons_zero, List.getElem_cons_succ, List.setIfInBounds_toArray, List.set_cons_zero, List.set_cons_succ]
      refine anyL_take (i := 9) (v := ?vq27) rfl (by kernel_rfl) (by kernel_rfl) (by kernel_rfl) (by kernel_rfl) (fun _ _ _ h => h) (Or.inl ⟨by rfl, ?hq27⟩) (unhide HS0_) ?_
      case hq27 => (intro w hSw; (try dsimp only at hSw); go_simp) <;> with_reducible rfl
      simp only [Act.put, List.getElem_toArray, List.getElem_cons_zero, List.getElem_cons_succ, List.setIfInBounds_toArray, List.set_cons_zero, List.set_cons_succ]
      refine anyL_take (i := 10) (v := ?vq28) rfl (by kernel_rfl) (by kernel_rfl) (by kernel_rfl) (by kernel_rfl) (fun _ _ _ h => h) (Or.inl ⟨by rfl, ?hq28⟩) (unhide HS0_) ?_
      case hq28 => (intro w hSw; (try dsimp only at hSw); go_simp) <;> with_reducible rfl
      simp only [Act.put, List.getElem_toArray, List.getElem_cons_zero, List.getElem_cons_succ, List.setIfInBounds_toArray, List.set_cons_zero, List.set_cons_succ]
      refine anyL_take (i := 11) (v := ?vq29) rfl (by kernel_rfl) (by kernel_rfl) (by kernel_rfl) (by kernel_rfl) (fun _ _ _ h => h) (Or.inl ⟨by rfl, ?hq29⟩) (unhide HS0_) ?_
      case hq29 => (intro w hSw; (try dsimp only at hSw); go_simp) <;> with_reducible rfl
      simp only [Act.put, List.getElem_toArray, List.getElem_cons_zero, List.getElem_cons_succ, List.setIfInBounds_toArray, List.set_cons_zero, List.set_cons_succ]
      refine anyL_ready (rs := [12]) (by kernel_rfl) (by simp) ?_
      refine AllL.cons rfl (fun K hK => ?_) AllL.nil
      go_simp
      refine (RWords_at wn _ [] none (RA.nil _ _) (by simp)).mono ?_
      rintro y ub ⟨vb, kkb, rfl, rb, lb, xb⟩
      dsimp only
      have HXb := hide xb
      have HVb := hide rb
      clear lb rb
      have NM := hide ((unhide HM).kpf (KpF.of (F := fun _ => False) (unhide HXb)) (fun e => e))
      have NO := hide ((unhide HO).kpf (KpF.of (F := fun _ => False) (unhide HXb)) (fun e => e))
      have NT := hide ((unhide HT).kpf (KpF.of (F := fun _ => False) (unhide HXb)) (fun e => e))
      have NY := hide ((unhide HY).kpf (KpF.of (F := fun _ => False) (unhide HXb)) (fun e => e))
      have NHK1 := hide ((unhide HK1).bel (unhide HXb))
      clear HM HO HT HY HK1
      have HM := NM
      have HO := NO
      have HT := NT
      have HY := NY
      have HK1 := NHK1
      clear NM NO NT NY NHK1
      clear xb
      have HS1_ : Hid (ub.cell? ⟨W3.heap.size, 0, none⟩ = some (.int .i64 0) ∧ ub.cell? ⟨W3.heap.size, 1, none⟩ = some (.string ⟨#[]⟩) ∧ ub.cell? ⟨B, 3, none⟩ = some (.slice none 0 0) ∧ ub.cell? ⟨B, 4, none⟩ = some (.slice none 0 0)) := hide ⟨((unhide HY).cell 0).trans rfl, ((unhide HY).cell 1).trans rfl, ((unhide HM).cell 3).trans rfl, ((unhide HM).cell 4).trans rfl⟩
      refine unhide hK _ _ (fun _ => unhide HS1_) ?_
      clear hK K
      refine anyL_ready (rs := [13]) (by kernel_rfl) (by simp) ?_
      refine AllL.cons rfl (fun K hK => ?_) AllL.nil
      go_simp
      refine (wordsTQ_at ub (.slice none 0 0) vb [] none _ (RA.nil _ _) (unhide HVb) (by simp)).mono ?_
      rintro y yb ⟨rfl, zb⟩
      dsimp only
      have HZb := hide zb
      have NM := hide ((unhide HM).kpf (KpF.of (F := fun _ => False) (unhide HZb)) (fun e => e))
      have NO := hide ((unhide HO).kpf (KpF.of (F := fun _ => False) (unhide HZb)) (fun e => e))
      have NT := hide ((unhide HT).kpf (KpF.of (F := fun _ => False) (unhide HZb)) (fun e => e))
      have NY := hide ((unhide HY).kpf (KpF.of (F := fun _ => False) (unhide HZb)) (fun e => e))
      have NHK1 := hide ((unhide HK1).bel (unhide HZb))
      clear HM HO HT HY HK1
      have HM := NM
      have HO := NO
      have HT := NT
      have HY := NY
      have HK1 := NHK1
      clear NM NO NT NY NHK1
      clear zb
      have HS2_ : Hid (yb.cell? ⟨W3.heap.size, 0, none⟩ = some (.int .i64 0) ∧ yb.cell? ⟨W3.heap.size, 1, none⟩ = some (.string ⟨#[]⟩) ∧ yb.cell? ⟨B, 3, none⟩ = some (.slice none 0 0) ∧ yb.cell? ⟨B, 4, none⟩ = some (.slice none 0 0)) := hide ⟨((unhide HY).cell 0).trans rfl, ((unhide HY).cell 1).trans rfl, ((unhide HM).cell 3).trans rfl, ((unhide HM).cell 4).trans rfl⟩
      refine unhide hK _ _ (fun _ => unhide HS2_) ?_
      clear hK K
      refine anyL_take (i := 14) (v := ?vq30) rfl (by kernel_rfl) (by kernel_rfl) (by kernel_rfl) (by kernel_rfl) (fun _ _ _ h => h) (Or.inl ⟨by rfl, ?hq30⟩) (unhide HS2_) ?_
      case hq30 => (intro w hSw; (try dsimp only at hSw); go_simp) <;> with_reducible rfl
      simp only [Act.put, List.getElem_toArray, List.getElem_cons_zero, List.getElem_cons_succ, List.setIfInBounds_toArray, List.set_cons_zero, List.set_cons_succ]
      refine anyL_take (i := 15) (v := ?vq31) rfl (by kernel_rfl) (by kernel_rfl) (by kernel_rfl) (by kernel_rfl) (fun _ _ _ h => h) (Or.inl ⟨by rfl, ?hq31⟩) (unhide HS2_) ?_
      case hq31 => (intro w hSw; (try dsimp only at hSw); go_simp) <;> with_reducible rfl
      simp only [Act.put, List.getElem_toArray, List.getElem_cons_zero, List.getElem_cons_succ, List.setIfInBounds_toArray, List.set_cons_zero, List.set_cons_succ]
      refine anyL_take (i := 16) (v := ?vq32) rfl (by kernel_rfl) (by kernel_rfl) (by kernel_rfl) (by kernel_rfl) (fun _ _ _ h => h) (Or.inl ⟨by rfl, ?hq32⟩) (unhide HS2_) ?_
      case hq32 => (intro w hSw; (try dsimp only at hSw); go_simp) <;> with_reducible rfl
      simp only [Act.put, List.getElem_toArray, List.getElem_cons_zero, List.getElem_cons_succ, List.setIfInBounds_toArray, List.set_cons_zero, List.set_cons_succ]
      refine anyL_take (i := 17) (v := ?vq33) rfl (by kernel_rfl) (by kernel_rfl) (by kernel_rfl) (by kernel_rfl) (fun _ _ _ h => h) (Or.inl ⟨by rfl, ?hq33⟩) (unhide HS2_) ?_
      case hq33 => (intro w hSw; (try dsimp only at hSw); go_simp) <;> with_reducible rfl
      simp only [Act.put, List.getElem_toArray, List.getElem_cons_zero, List.getElem_cons_succ, List.setIfInBounds_toArray, List.set_cons_zero, List.set_cons_succ]
      refine anyL_take (i := 18) (v := ?vq34) rfl (by kernel_rfl) (by kernel_rfl) (by kernel_rfl) (by kernel_rfl) (fun _ _ _ h => h) (Or.inl ⟨by rfl, ?hq34⟩) (unhide HS2_) ?_
      case hq34 => (intro w hSw; (try dsimp only at hSw); go_simp) <;> with_reducible rfl
      simp only [Act.put, List.getElem_toArray, List.getElem_cons_zero, List.getElem_cons_succ, List.setIfInBounds_toArray, List.set_cons_zero, List.set_cons_succ]
      refine anyL_take (i := 19) (v := ?vq35) rfl (by kernel_rfl) (by kernel_rfl) (by kernel_rfl) (by kernel_rfl) (fun _ _ _ h => h) (Or.inl ⟨by rfl, ?hq35⟩) (unhide HS2_) ?_
      case hq35 => (intro w hSw; (try dsimp only at hSw); go_simp) <;> with_reducible rfl
      simp only [Act.put, List.getElem_toArray, List.getElem_cons_zero, List.getElem_cons_succ, List.setIfInBounds_toArray, List.set_cons_zero, List.set_cons_succ]
      refine anyL_ready (rs := [20]) (by kernel_rfl) (by simp) ?_
      refine AllL.cons rfl (fun K hK => ?_) AllL.nil
      go_simp
      refine (RWords_at yb _ [] none (RA.nil _ _) (by simp)).mono ?_
      rintro y ua ⟨va, kka, rfl, ra, la, xa⟩
      dsimp only
      have HXa := hide xa
      have HVa := hide ra
      clear la ra
      have NM := hide ((unhide HM).kpf (KpF.of (F := fun _ => False) (unhide HXa)) (fun e => e))
      have NO := hide ((unhide HO).kpf (KpF.of (F := fun _ => False) (unhide HXa)) (fun e => e))
      have NT := hide ((unhide HT).kpf (KpF.of (F := fun _ => False) (unhide HXa)) (fun e => e))
      have NY := hide ((unhide HY).kpf (KpF.of (F := fun _ => False) (unhide HXa)) (fun e => e))
      have NHK1 := hide ((unhide HK1).bel (unhide HXa))
      clear HM HO HT HY HK1
      have HM := NM
      have HO := NO
      have HT := NT
      have HY := NY
      have HK1 := NHK1
      clear NM NO NT NY NHK1
      clear xa
      have HS3_ : Hid (ua.cell? ⟨W3.heap.size, 0, none⟩ = some (.int .i64 0) ∧ ua.cell? ⟨W3.heap.size, 1, none⟩ = some (.string ⟨#[]⟩) ∧ ua.cell? ⟨B, 3, none⟩ = some (.slice none 0 0) ∧ ua.cell? ⟨B, 4, none⟩ = some (.slice none 0 0)) := hide ⟨((unhide HY).cell 0).trans rfl, ((unhide HY).cell 1).trans rfl, ((unhide HM).cell 3).trans rfl, ((unhide HM).cell 4).trans rfl⟩
      refine unhide hK _ _ (fun _ => unhide HS3_) ?_
      clear hK K
      refine anyL_ready (rs := [21]) (by kernel_rfl) (by simp) ?_
      refine AllL.cons rfl (fun K hK => ?_) AllL.nil
      go_simp
      refine (wordsTQ_at ua (.slice none 0 0) va [] none _ (RA.nil _ _) (unhide HVa) (by simp)).mono ?_
      rintro y ya ⟨rfl, za⟩
      dsimp only
      have HZa := hide za
      have NM := hide ((unhide HM).kpf (KpF.of (F := fun _ => False) (unhide HZa)) (fun e => e))
      have NO := hide ((unhide HO).kpf (KpF.of (F := fun _ => False) (unhide HZa)) (fun e => e))
      have NT := hide ((unhide HT).kpf (KpF.of (F := fun _ => False) (unhide HZa)) (fun e => e))
      have NY := hide ((unhide HY).kpf (KpF.of (F := fun _ => False) (unhide HZa)) (fun e => e))
      have NHK1 := hide ((unhide HK1).bel (unhide HZa))
      clear HM HO HT HY HK1
      have HM := NM
      have HO := NO
      have HT := NT
      have HY := NY
      have HK1 := NHK1
      clear NM NO NT NY NHK1
      clear za
      have HS4_ : Hid (ya.cell? ⟨W3.heap.size, 0, none⟩ = some (.int .i64 0) ∧ ya.cell? ⟨W3.heap.size, 1, none⟩ = some (.string ⟨#[]⟩) ∧ ya.cell? ⟨B, 3, none⟩ = some (.slice none 0 0) ∧ ya.cell? ⟨B, 4, none⟩ = some (.slice none 0 0)) := hide ⟨((unhide HY).cell 0).trans rfl, ((unhide HY).cell 1).trans rfl, ((unhide HM).cell 3).trans rfl, ((unhide HM).cell 4).trans rfl⟩
      refine unhide hK _ _ (fun _ => unhide HS4_) ?_
      clear hK K
      refine anyL_take (i := 22) (v := ?vq36) rfl (by kernel_rfl) (by kernel_rfl) (by kernel_rfl) (by kernel_rfl) (fun _ _ _ h => h) (Or.inl ⟨by rfl, ?hq36⟩) (unhide HS4_) ?_
      case hq36 => (intro w hSw; (try dsimp only at hSw); go_simp) <;> with_reducible rfl
      simp only [Act.put, List.getElem_toArray, List.getElem_cons_zero, List.getElem_cons_succ, List.setIfInBounds_toArray, List.set_cons_zero, List.set_cons_succ]
      refine anyL_take (i := 23) (v := ?vq37) rfl (by kernel_rfl) (by kernel_rfl) (by kernel_rfl) (by kernel_rfl) (fun _ _ _ h => h) (Or.inl ⟨by rfl, ?hq37⟩) (unhide HS4_) ?_
      case hq37 => (intro w hSw; (try dsimp only at hSw); go_simp) <;> with_reducible rfl
      simp only [Act.put, List.getElem_toArray, List.getElem_cons_zero, List.getElem_cons_succ, List.setIfInBounds_toArray, List.set_cons_zero, List.set_cons_succ]
      refine anyL_done (by kernel_rfl) ?_ _
      have HE : Hid (Cls ya B 44 #[.bool true, .int .i64 0, .int .i64 0, .slice none 0 0, .slice none 0 0, .bool false, .string ⟨#[]⟩, .int .i64 0, .bool false] ∧ Below w.heap.size w ya ∧ w.heap.size ≤ B) := hide ⟨unhide HM, (unhide HS).2.1.trans ((unhide HK1).below (unhide HS).2.1.size (fun i e => e ▸ (unhide HS).2.2)), (unhide HS).2.2⟩
      go_wp2_with fail
      go_roundw
      case rel => exact ⟨k + 1, by first | rfl | rw [wk], hlt, HE⟩
      case measure => simp [intOf]; omega
    · obtain rfl : k = d.length := by omega
      have u1 : decide ((d.length : Int) < (d.length : Int)) = false := decide_eq_false (by omega)
      have HX := hide (unhide HS).2.1
      clear HO HS
      go_wp2_with fail
      exact bodyPost_ret (results_tmp rfl _ _ _) rfl ⟨rfl, unhide HX⟩
theorem playsQ_at (f m : Int) (a : Option Addr) (cc : Nat) (d : List Oq) (w : World) (ho : IsQ w a d) (hl : d.length ≤ 140737488355328) (hw : ∀ o ∈ d, o.w.size ≤ 281474976710656) :
    Calls Try.prog 7 #[.int .i64 f, .int .i64 m, .slice a d.length cc, .func (.func 8) #[] #[]] w fun y Y => y = .returned (.bool true) ∧ Below w.heap.size w Y := by
  by_cases h : 0 ≤ m ∧ m ≤ 4096
  · exact playsGQ_at f m a cc d w h ho hl hw
  · exact playsBQ_at f m a cc d w h ho hl
end Go.Proofs.Ytdemfejladepjaa
