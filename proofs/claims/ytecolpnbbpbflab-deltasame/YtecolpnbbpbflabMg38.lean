/- Layer 13: DeltaBack's walk (written by wip/tools/dsl.py). -/
import Derived.Test.YtecolpnbbpbflabMg35

namespace Go.Proofs.Ytecolpnbbpbflab
open Go.ChangeShapes Go.WideShapes Go.ChangeAt Go.RowKit
attribute [local go_sem] Oper.semAt_some

/-- two more operations -/
theorem push_op2 (W : World) (B n : Nat) (v : Value) (xs : List Value) (a b : Int) (s : ByteArray) (a' b' : Int) (s' : ByteArray) (ty : TypeId) (h : W.ownsRow B 39 3 v n xs) (hn : n ≤ 1099511627776) (hB : B ≤ W.heap.size) :
    ∃ g k W', (Builtin.append_ #[24, 24] ty #[v, .slice (some ⟨W.heap.size, 0, none⟩) 2 2]).run Try.prog (W.alloc (.cells #[.int .i64 a, .int .i64 b, .string s, .int .i64 a', .int .i64 b', .string s'] 39)) = .ok (.slice (some ⟨g, 0, none⟩) (n + 2) k) W' ∧
      W'.ownsRow B 39 3 (.slice (some ⟨g, 0, none⟩) (n + 2) k) (n + 2) (xs ++ [.int .i64 a, .int .i64 b, .string s, .int .i64 a', .int .i64 b', .string s']) ∧ W.grownBy W' v.ownBlock ∧ Below B W W' := by
  obtain ⟨i, hi, hz, hs, hby⟩ := info_op
  have hr := World.ownsRow.alloc h (.cells #[.int .i64 a, .int .i64 b, .string s, .int .i64 a', .int .i64 b', .string s'] 39)
  have kN := Cls.new W 39 #[.int .i64 a, .int .i64 b, .string s, .int .i64 a', .int .i64 b', .string s']
  obtain ⟨g, k, W', hrun, ho, hg, _, _⟩ := run_append_lies (P := Try.prog) (W.alloc (.cells #[.int .i64 a, .int .i64 b, .string s, .int .i64 a', .int .i64 b', .string s'] 39)) 24 ty B 39 i (.agg #[.int .i64 0, .int .i64 0, .string ⟨#[]⟩]) 3 32 Try.underlying24 hi hz hs hby rfl (by decide)
    v n xs hr ⟨W.heap.size, 0, none⟩ 2 2 [.int .i64 a, .int .i64 b, .string s, .int .i64 a', .int .i64 b', .string s'] rfl
    (fun j u hj => by
      rw [Addr.add_lit, Nat.zero_add]
      exact (kN.cell j).trans (by simpa using hj))
    (fun u hu => by simp at hu; rcases hu with rfl | rfl | rfl | rfl | rfl | rfl <;> rfl) (by decide) (by unfold maxLen; omega) (by omega) (by simp; omega) _ rfl
  have ha := World.grownBy_alloc W (.cells #[.int .i64 a, .int .i64 b, .string s, .int .i64 a', .int .i64 b', .string s'] 39) none
  refine ⟨g, k, W', hrun, ho, ⟨hg.os.trans ha.os, hg.tape.trans ha.tape, hg.output.trans ha.output, Nat.le_trans ha.size hg.size, fun k hk hne => ?_⟩, ((Below.refl B W).alloc hB _).grown hg (by simp; omega) (fun k hk => (hr.lt k hk).1)⟩
  exact (hg.block k (Nat.lt_of_lt_of_le hk ha.size) hne).trans (ha.block k hk (by simp))
theorem bk_push2 {w X : World} {v : Value} {L : List Dop} (ho : X.ownsRow w.heap.size 39 3 v L.length (opsV L)) (hd : Below w.heap.size w X) (hl : L.length ≤ 1000000000) (m : Int) (s : List Int) :
    ∃ g c W', (Builtin.append_ #[24, 24] 24 #[v, .slice (some ⟨X.heap.size, 0, none⟩) 2 2]).run Try.prog (X.alloc (.cells #[.int .i64 2, .int .i64 0, .string (strOfNums s), .int .i64 3, .int .i64 m, .string ⟨#[]⟩] 39)) = .ok (.slice (some ⟨g, 0, none⟩) (L.length + 2) c) W' ∧
      W'.ownsRow w.heap.size 39 3 (.slice (some ⟨g, 0, none⟩) (L.length + 2) c) (L ++ [(⟨2, 0, s⟩ : Dop), ⟨3, m, []⟩]).length (opsV (L ++ [(⟨2, 0, s⟩ : Dop), ⟨3, m, []⟩])) ∧ Below w.heap.size w W' ∧ (∀ i, i < X.heap.size → v.ownBlock ≠ some i → W'.heap[i]? = X.heap[i]?) := by
  obtain ⟨g, c, W', r, o, gr, b⟩ := push_op2 X w.heap.size L.length v (opsV L) 2 0 (strOfNums s) 3 m ⟨#[]⟩ 24 ho (by omega) hd.size
  refine ⟨g, c, W', r, ?_, hd.trans b, fun i hi hne => gr.block i hi (fun e => hne e.symm)⟩
  rw [show (L ++ [(⟨2, 0, s⟩ : Dop), ⟨3, m, []⟩]).length = L.length + 2 by simp, opsV_app]
  exact o
theorem bk_push1 {w X : World} {v : Value} {L : List Dop} (ho : X.ownsRow w.heap.size 39 3 v L.length (opsV L)) (hd : Below w.heap.size w X) (hl : L.length ≤ 1000000000) (k n : Int) (s : ByteArray) (y : Dop) (hy : opL y = [.int .i64 k, .int .i64 n, .string s]) :
    ∃ g c W', (Builtin.append_ #[24, 24] 24 #[v, .slice (some ⟨X.heap.size, 0, none⟩) 1 1]).run Try.prog (X.alloc (.cells #[.int .i64 k, .int .i64 n, .string s] 39)) = .ok (.slice (some ⟨g, 0, none⟩) (L.length + 1) c) W' ∧
      W'.ownsRow w.heap.size 39 3 (.slice (some ⟨g, 0, none⟩) (L.length + 1) c) (L ++ [y]).length (opsV (L ++ [y])) ∧ Below w.heap.size w W' ∧ (∀ i, i < X.heap.size → v.ownBlock ≠ some i → W'.heap[i]? = X.heap[i]?) := by
  obtain ⟨g, c, W', r, o, gr, b⟩ := push_op X w.heap.size L.length v (opsV L) k n s 24 ho (by omega) hd.size
  rw [← hy, ← opsV_one, ← opsV_app] at o
  refine ⟨g, c, W', r, ?_, hd.trans b, fun i hi hne => gr.block i hi (fun e => hne e.symm)⟩
  rw [show (L ++ [y]).length = L.length + 1 by simp]
  exact o
structure BkI (d : List Dop) (b : List Int) (k f : Nat) (L : List Dop) (v : Value) (w X : World) : Prop where
  e : (runB b (d.take k)).2 = L
  f : f = frD (d.take k)
  o : X.ownsRow w.heap.size 39 3 v L.length (opsV L)
  d : Below w.heap.size w X
set_option maxRecDepth 100000 in
set_option maxHeartbeats 4000000 in
theorem DeltaBack_any (a0 : Option Addr) (c0 : Nat) (b : List Int) (a1 : Option Addr) (c1 : Nat) (x : List Dop) (w : World) (hb : IsB w a0 c0 b) (hx : IsO w a1 x) (_hzx : x = [] ∨ ∃ q, a1 = some q) (_hlx : x.length * 32 ≤ 140737488355328) (htx : ∀ o ∈ x, TbD o ∧ o.t.length ≤ 140737488355328) :
    Calls Try.prog 3 #[.slice a0 b.length c0, .slice a1 x.length c1] w fun y w' => y = .returned (.bool true) ∧ Below w.heap.size w w' := by
  have HAw := hide (awake13_at w)
  have HSh := hide fun (X : World) (hX : Below w.heap.size w X) => short_at a0 b.length c0 X.heap.size 1 [⟨a1, c1, x⟩] w (X.alloc (.cells #[.slice a1 x.length c1] 24)) (by
    have kN := Cls.new X 24 #[.slice a1 x.length c1]
    refine ⟨fun i hi => ?_, fun i hi => ?_, kN.lt⟩
    · match i with
      | 0 => exact kN.cell 0
      | i + 1 => simp at hi
    · match i with
      | 0 => exact ⟨hx, fun o ho => (htx o ho).2⟩
      | i + 1 => simp at hi) (hX.alloc hX.size _) (by simp)
  have HB := hide fun (X : World) (hX : Below w.heap.size w X) => bytes13B a0 c0 b X (hb.below hX (Nat.le_refl _))
  have HALL : Hid (b.length ≤ 5000 → ShD x → ∃ D I W : List Dop, ∃ T : List Int, ((∀ X, Below w.heap.size w X → Calls Try.prog 8 #[.slice a1 x.length c1, .int .i64 (b.length : Int)] X fun y X' => ∃ a' c', y = .returned (.slice a' D.length c') ∧ IsO X' a' D ∧ Below X.heap.size X X') ∧
      (∀ X a3 c3 a4 c4, IsB X a3 c3 b → IsO X a4 D → Calls Try.prog 9 #[.slice a3 b.length c3, .slice a4 D.length c4] X fun y X' => ∃ a' c', y = .returned (.tuple #[.slice a' T.length c', .int .i64 0]) ∧ IsB X' a' c' T ∧ Below X.heap.size X X') ∧
      (∀ X a3 c3 a4 c4, IsB X a3 c3 b → IsO X a4 D → Calls Try.prog 12 #[.slice a3 b.length c3, .slice a4 D.length c4] X fun y X' => ∃ a' c', y = .returned (.tuple #[.slice a' I.length c', .int .i64 0]) ∧ IsO X' a' I ∧ Below X.heap.size X X') ∧
      (∀ X a3 c3 a4 c4, IsB X a3 c3 T → IsO X a4 I → Calls Try.prog 9 #[.slice a3 T.length c3, .slice a4 I.length c4] X fun y X' => ∃ a' c', y = .returned (.tuple #[.slice a' b.length c', .int .i64 0]) ∧ IsB X' a' c' b ∧ Below X.heap.size X X') ∧
      (∀ X a3 c3 a4 c4, IsB X a3 c3 T → IsO X a4 I → Calls Try.prog 12 #[.slice a3 T.length c3, .slice a4 I.length c4] X fun y X' => ∃ a' c', y = .returned (.tuple #[.slice a' D.length c', .int .i64 0]) ∧ IsO X' a' D ∧ Below X.heap.size X X') ∧
      (∀ X a3 c3 a4 c4, (IsO X a3 D ∧ D.length ≤ c3) → (IsO X a4 I ∧ I.length ≤ c4) → Calls Try.prog 14 #[.slice a3 D.length c3, .slice a4 I.length c4] X fun y X' => ∃ a' c', y = .returned (.tuple #[.slice a' W.length c', .int .i64 0]) ∧ IsO X' a' W ∧ Below X.heap.size X X') ∧
      (∀ X a3 c3 a4 c4, IsO X a3 D → IsO X a4 D → Calls Try.prog 13 #[.slice a3 D.length c3, .slice a4 D.length c4] X fun y X' => y = .returned (.bool true) ∧ Below X.heap.size X X') ∧
      (∀ X a3 c3 a4 c4, IsO X a3 W → IsO X a4 W → Calls Try.prog 13 #[.slice a3 W.length c3, .slice a4 W.length c4] X fun y X' => y = .returned (.bool true) ∧ Below X.heap.size X X') ∧
      (∀ X a3 c3, IsO X a3 (runB b D).2 → Calls Try.prog 15 #[.slice a3 (runB b D).2.length c3] X fun y X' => ∃ a' c', y = .returned (.tuple #[.slice a' W.length c', .int .i64 0]) ∧ IsO X' a' W ∧ Below X.heap.size X X') ∧
      D.length * 32 ≤ 140737488355328 ∧ I.length * 32 ≤ 140737488355328 ∧ D.length ≤ 20000 ∧ valB D = true ∧ frD D = b.length)) := hide fun hbl sx => by
    have kx : ∀ o ∈ x, (o.k = 1 ∨ o.k = 2 ∨ o.k = 3) ∧ TbD o ∧ o.t.length ≤ 140737488355328 := fun o ho => ⟨sx.2.1 o ho, htx o ho⟩
    have hsx := sx.2.2
    have hlx := sx.1
    obtain ⟨vD, fD, tD, bD⟩ := fitD_ok (n := b.length) kx (by omega)
    have cD : canA (dA (fitD x b.length)) = fitD x b.length := canA_id (canA_can _)
    generalize hD : fitD x b.length = D at *
    have iv := inv_ok vD fD
    have mT := ap_len vD fD
    have ib := inv_back vD fD
    have ia := inv_again vD fD cD
    have fI : frD (invD b D) = (apD b D).length := iv.f.trans mT.symm
    have iv2 := inv_ok iv.v fI
    have bI : ∀ o ∈ invD b D, TbD o := by
      unfold invD
      split
      · exact can_tb (runV_tb hb.2.2.2 D).2
      · simp
    have two := two_ok vD iv.v iv.f.symm
    have sm := bak_same vD fD
    have bk := bk_ok vD fD hb.2.2.2 D.length (Nat.le_refl _)
    have bkl : (runB b D).2.length ≤ 2 * D.length := by have := bk.l; rwa [List.take_length] at this
    have bko : ∀ o ∈ (runB b D).2, knB o = true ∧ TbD o ∧ o.t.length ≤ b.length := by have := bk.o; rwa [List.take_length] at this
    have bkf : frD (runB b D).2 = frD D := by have := bk.f; rwa [List.take_length] at this
    have bkt : toD (runB b D).2 = frD D := by have := bk.t; rwa [List.take_length] at this
    have dlen : D.length ≤ 20000 := by
      have h1 := can_len (val_pln vD)
      have h2 := dA_len (valB_k vD)
      omega
    have bW := two_tb bD bI
    refine ⟨D, invD b D, cmD D (invD b D), apD b D, ⟨?_, ?_, ?_, ?_, ?_, ?_, ?_, ?_, ?_, (val_small vD).2, (val_small iv.v).2, dlen, vD, fD⟩⟩
    · exact fun X hX => (fit_at a1 c1 x b.length X (hx.below hX (Nat.le_refl _)) (by omega) (by omega) kx).mono fun y X' ⟨a', c', e, h1, _, h2⟩ => by rw [hD] at e h1; exact ⟨a', c', e, h1, h2⟩
    · intro X a3 c3 a4 c4 h1 h2
      have := ApplyB_at a3 c3 b a4 c4 _ X h1 h2 (val_small vD).1 bD
      rw [fit_zero vD fD, ap_zero vD fD] at this
      exact this
    · intro X a3 c3 a4 c4 h1 h2
      have := InvertO_at a3 c3 b a4 c4 _ X h1 h2 (val_small vD).1
      rw [fit_zero vD fD] at this
      exact this
    · intro X a3 c3 a4 c4 h1 h2
      have := ApplyB_at a3 c3 _ a4 c4 _ X h1 h2 (val_small iv.v).1 bI
      rw [fit_zero iv.v fI, ap_zero iv.v fI, ib] at this
      exact this
    · intro X a3 c3 a4 c4 h1 h2
      have := InvertO_at a3 c3 _ a4 c4 _ X h1 h2 (val_small iv.v).1
      rw [fit_zero iv.v fI, ia] at this
      exact this
    · intro X a3 c3 a4 c4 h1 h2
      have := ComposeO_at a3 c3 _ a4 c4 _ X h1 h2 (val_small vD).1 (val_small iv.v).1
      rw [two.e] at this
      exact this
    · intro X a3 c3 a4 c4 h1 h2
      have := same13_at a3 c3 _ a4 c4 _ X h1 h2 (val_small vD).1 (val_small vD).1 bD bD
      simpa using this
    · intro X a3 c3 a4 c4 h1 h2
      have := same13_at a3 c3 _ a4 c4 _ X h1 h2 (val_small two.v).1 (val_small two.v).1 bW bW
      simpa using this
    · intro X a3 c3 h1
      have hc := hb.2.1
      have := RCanon_at a3 c3 (runB b D).2 X h1 (by omega) (fun o ho => by have := (bko o ho).2.2; omega)
      have hkn : (runB b D).2.all knB = true := List.all_eq_true.2 fun o ho => (bko o ho).1
      have hlo : lonB (runB b D).2 = false := decide_eq_false (by omega)
      have hcd : canD (runB b D).2 = (cmD D (invD b D), 0) := by unfold canD; rw [hkn, hlo, sm]; rfl
      rw [hcd] at this
      exact this.mono fun y X' ⟨a', c', e, h1, _, h2⟩ => ⟨a', c', e, h1, h2⟩
  have HBB := hide fun (X : World) (hX : Below w.heap.size w X) => hb.below hX (Nat.le_refl _)
  have HBY := hide hb
  clear hb hx htx _hzx _hlx
  go_enter Try.func3, Try.ntmps3
  go_wp2_with fail
  refine (unhide HAw).mono ?_
  rintro yy w1 ⟨rfl, x1⟩
  dsimp only
  have HX1 := hide x1
  have HS1 := hide (unhide HSh w1 x1)
  simp only [List.length_cons, List.length_nil] at HS1
  have HXa := hide (x1.alloc x1.size (.cells #[.slice a1 x.length c1] 24))
  clear HAw HSh x1
  go_upto_region 3 with fail
  generalize hv1 : w1.alloc (.cells #[.slice a1 x.length c1] 24) = v1 at HS1 HXa
  go_wp2_with fail
  clear hv1
  refine (unhide HS1).mono ?_
  rintro yy w2 ⟨r, rfl, hr, x2⟩
  dsimp only
  have HX2 := hide ((unhide HXa).trans (x2.mono (unhide HXa).size))
  have HR := hide hr
  clear HS1 HX1 HXa x2 hr
  cases r with
  | false =>
    clear HR HALL HB HBB HBY
    go_wp2_with fail
    refine bodyPost_ret (results_tmp rfl _ _ _) rfl ⟨rfl, unhide HX2⟩
  | true =>
    obtain ⟨hbl, hsh⟩ := unhide HR rfl
    have sx : ShD x := hsh 0 (by simp)
    obtain ⟨D, I, WW, T, f1, p1, i1, p2, i2, cm, s1, s2, rc, lD, lI, dl, vD, fD⟩ := unhide HALL hbl sx
    have HF1 := hide f1
    have HP1 := hide fun (X : World) (_ : Below w.heap.size w X) => p1 X
    have HI1 := hide fun (X : World) (_ : Below w.heap.size w X) => i1 X
    have HP2 := hide fun (X : World) (_ : Below w.heap.size w X) => p2 X
    have HI2 := hide fun (X : World) (_ : Below w.heap.size w X) => i2 X
    have HCM := hide fun (X : World) (_ : Below w.heap.size w X) => cm X
    have HS1 := hide fun (X : World) (_ : Below w.heap.size w X) => s1 X
    have HS2 := hide fun (X : World) (_ : Below w.heap.size w X) => s2 X
    have HRC := hide rc
    have HOD := hide fun (X : World) (_ : Below w.heap.size w X) (a3 : Option Addr) (c3 : Nat) (h3 : IsO X a3 D) => own13H a3 c3 D X h3 lD
    have HOI := hide fun (X : World) (_ : Below w.heap.size w X) (a3 : Option Addr) (c3 : Nat) (h3 : IsO X a3 I) => own13H a3 c3 I X h3 lI
    have HBT := hide fun (X : World) (_ : Below w.heap.size w X) (a3 : Option Addr) (c3 : Nat) (h3 : IsB X a3 c3 T) => bytes13B a3 c3 T X h3
    have HVD := hide (And.intro vD fD)
    have HDL := hide dl
    have HBL := hide hbl
    clear HR HALL hbl hsh sx f1 p1 i1 p2 i2 cm s1 s2 rc lD lI dl vD fD
    have HC3 := hide (unhide HF1 w2 (unhide HX2))
    go_wp2_with fail
    refine (unhide HC3).mono ?_
    rintro y w3 ⟨a3', c3', rfl, i3, x3⟩
    dsimp only
    have HX3 := hide ((unhide HX2).trans (x3.mono (unhide HX2).size))
    have D__3 := hide (i3)
    clear HC3 HX2 x3  i3 HF1
    have HC4 := hide (unhide HB w3 (unhide HX3))
    go_wp2_with fail
    refine (unhide HC4).mono ?_
    rintro y w4 ⟨a4', c4', rfl, i4, x4⟩
    dsimp only
    have HX4 := hide ((unhide HX3).trans (x4.mono (unhide HX3).size))
    have D__4 := hide ((unhide D__3).below x4 (Nat.le_refl _))
    have q_4 := hide (i4)
    clear HC4 HX3 x4 D__3 i4
    have HC5 := hide (unhide HOD w4 (unhide HX4) a3' c3' (unhide D__4))
    go_wp2_with fail
    refine (unhide HC5).mono ?_
    rintro y w5 ⟨a5', c5', rfl, ⟨i5, l5⟩, x5⟩
    dsimp only
    have HX5 := hide ((unhide HX4).trans (x5.mono (unhide HX4).size))
    have D__5 := hide ((unhide D__4).below x5 (Nat.le_refl _))
    have q_5 := hide ((unhide q_4).below x5 (Nat.le_refl _))
    have o_5 := hide (i5)
    clear HC5 HX4 x5 D__4 q_4 i5
    have HC6 := hide (unhide HP1 w5 (unhide HX5) a4' c4' a5' c5' (unhide q_5) (unhide o_5))
    go_wp2_with fail
    refine (unhide HC6).mono ?_
    rintro y w6 ⟨a6', c6', rfl, i6, x6⟩
    dsimp only
    have HX6 := hide ((unhide HX5).trans (x6.mono (unhide HX5).size))
    have D__6 := hide ((unhide D__5).below x6 (Nat.le_refl _))
    have q_6 := hide ((unhide q_5).below x6 (Nat.le_refl _))
    have o_6 := hide ((unhide o_5).below x6 (Nat.le_refl _))
    have T__6 := hide (i6)
    clear HC6 HX5 x6 D__5 q_5 o_5 i6 HP1
    clear q_6
    clear o_6
    have HC7 := hide (unhide HB w6 (unhide HX6))
    go_wp2_with fail
    refine (unhide HC7).mono ?_
    rintro y w7 ⟨a7', c7', rfl, i7, x7⟩
    dsimp only
    have HX7 := hide ((unhide HX6).trans (x7.mono (unhide HX6).size))
    have D__7 := hide ((unhide D__6).below x7 (Nat.le_refl _))
    have T__7 := hide ((unhide T__6).below x7 (Nat.le_refl _))
    have q_7 := hide (i7)
    clear HC7 HX6 x7 D__6 T__6 i7
    have HC8 := hide (unhide HOD w7 (unhide HX7) a3' c3' (unhide D__7))
    go_wp2_with fail
    refine (unhide HC8).mono ?_
    rintro y w8 ⟨a8', c8', rfl, ⟨i8, l8⟩, x8⟩
    dsimp only
    have HX8 := hide ((unhide HX7).trans (x8.mono (unhide HX7).size))
    have D__8 := hide ((unhide D__7).below x8 (Nat.le_refl _))
    have T__8 := hide ((unhide T__7).below x8 (Nat.le_refl _))
    have q_8 := hide ((unhide q_7).below x8 (Nat.le_refl _))
    have o_8 := hide (i8)
    clear HC8 HX7 x8 D__7 T__7 q_7 i8
    have HC9 := hide (unhide HI1 w8 (unhide HX8) a7' c7' a8' c8' (unhide q_8) (unhide o_8))
    go_wp2_with fail
    refine (unhide HC9).mono ?_
    rintro y w9 ⟨a9', c9', rfl, i9, x9⟩
    dsimp only
    have HX9 := hide ((unhide HX8).trans (x9.mono (unhide HX8).size))
    have D__9 := hide ((unhide D__8).below x9 (Nat.le_refl _))
    have T__9 := hide ((unhide T__8).below x9 (Nat.le_refl _))
    have q_9 := hide ((unhide q_8).below x9 (Nat.le_refl _))
    have o_9 := hide ((unhide o_8).below x9 (Nat.le_refl _))
    have I__9 := hide (i9)
    clear HC9 HX8 x9 D__8 T__8 q_8 o_8 i9 HI1
    clear q_9
    clear o_9
    have HC10 := hide (unhide HBT w9 (unhide HX9) a6' c6' (unhide T__9))
    go_wp2_with fail
    refine (unhide HC10).mono ?_
    rintro y w10 ⟨a10', c10', rfl, i10, x10⟩
    dsimp only
    have HX10 := hide ((unhide HX9).trans (x10.mono (unhide HX9).size))
    have D__10 := hide ((unhide D__9).below x10 (Nat.le_refl _))
    have T__10 := hide ((unhide T__9).below x10 (Nat.le_refl _))
    have I__10 := hide ((unhide I__9).below x10 (Nat.le_refl _))
    have q_10 := hide (i10)
    clear HC10 HX9 x10 D__9 T__9 I__9 i10
    have HC11 := hide (unhide HOI w10 (unhide HX10) a9' c9' (unhide I__10))
    go_wp2_with fail
    refine (unhide HC11).mono ?_
    rintro y w11 ⟨a11', c11', rfl, ⟨i11, l11⟩, x11⟩
    dsimp only
    have HX11 := hide ((unhide HX10).trans (x11.mono (unhide HX10).size))
    have D__11 := hide ((unhide D__10).below x11 (Nat.le_refl _))
    have T__11 := hide ((unhide T__10).below x11 (Nat.le_refl _))
    have I__11 := hide ((unhide I__10).below x11 (Nat.le_refl _))
    have q_11 := hide ((unhide q_10).below x11 (Nat.le_refl _))
    have o_11 := hide (i11)
    clear HC11 HX10 x11 D__10 T__10 I__10 q_10 i11
    have HC12 := hide (unhide HP2 w11 (unhide HX11) a10' c10' a11' c11' (unhide q_11) (unhide o_11))
    go_wp2_with fail
    refine (unhide HC12).mono ?_
    rintro y w12 ⟨a12', c12', rfl, i12, x12⟩
    dsimp only
    have HX12 := hide ((unhide HX11).trans (x12.mono (unhide HX11).size))
    have D__12 := hide ((unhide D__11).below x12 (Nat.le_refl _))
    have T__12 := hide ((unhide T__11).below x12 (Nat.le_refl _))
    have I__12 := hide ((unhide I__11).below x12 (Nat.le_refl _))
    have q_12 := hide ((unhide q_11).below x12 (Nat.le_refl _))
    have o_12 := hide ((unhide o_11).below x12 (Nat.le_refl _))
    have B__12 := hide (i12)
    clear HC12 HX11 x12 D__11 T__11 I__11 q_11 o_11 i12 HP2
    clear q_12
    clear o_12
    have HC13 := hide (unhide HBT w12 (unhide HX12) a6' c6' (unhide T__12))
    go_wp2_with fail
    refine (unhide HC13).mono ?_
    rintro y w13 ⟨a13', c13', rfl, i13, x13⟩
    dsimp only
    have HX13 := hide ((unhide HX12).trans (x13.mono (unhide HX12).size))
    have D__13 := hide ((unhide D__12).below x13 (Nat.le_refl _))
    have T__13 := hide ((unhide T__12).below x13 (Nat.le_refl _))
    have I__13 := hide ((unhide I__12).below x13 (Nat.le_refl _))
    have B__13 := hide ((unhide B__12).below x13 (Nat.le_refl _))
    have q_13 := hide (i13)
    clear HC13 HX12 x13 D__12 T__12 I__12 B__12 i13
    have HC14 := hide (unhide HOI w13 (unhide HX13) a9' c9' (unhide I__13))
    go_wp2_with fail
    refine (unhide HC14).mono ?_
    rintro y w14 ⟨a14', c14', rfl, ⟨i14, l14⟩, x14⟩
    dsimp only
    have HX14 := hide ((unhide HX13).trans (x14.mono (unhide HX13).size))
    have D__14 := hide ((unhide D__13).below x14 (Nat.le_refl _))
    have T__14 := hide ((unhide T__13).below x14 (Nat.le_refl _))
    have I__14 := hide ((unhide I__13).below x14 (Nat.le_refl _))
    have B__14 := hide ((unhide B__13).below x14 (Nat.le_refl _))
    have q_14 := hide ((unhide q_13).below x14 (Nat.le_refl _))
    have o_14 := hide (i14)
    clear HC14 HX13 x14 D__13 T__13 I__13 B__13 q_13 i14
    have HC15 := hide (unhide HI2 w14 (unhide HX14) a13' c13' a14' c14' (unhide q_14) (unhide o_14))
    go_wp2_with fail
    refine (unhide HC15).mono ?_
    rintro y w15 ⟨a15', c15', rfl, i15, x15⟩
    dsimp only
    have HX15 := hide ((unhide HX14).trans (x15.mono (unhide HX14).size))
    have D__15 := hide ((unhide D__14).below x15 (Nat.le_refl _))
    have T__15 := hide ((unhide T__14).below x15 (Nat.le_refl _))
    have I__15 := hide ((unhide I__14).below x15 (Nat.le_refl _))
    have B__15 := hide ((unhide B__14).below x15 (Nat.le_refl _))
    have q_15 := hide ((unhide q_14).below x15 (Nat.le_refl _))
    have o_15 := hide ((unhide o_14).below x15 (Nat.le_refl _))
    have G__15 := hide (i15)
    clear HC15 HX14 x15 D__14 T__14 I__14 B__14 q_14 o_14 i15 HI2
    clear q_15
    clear o_15
    clear T__15
    have s1 := str_bs w15 a12' c12' b (unhide B__15).2.2.1
    have s2 := str_bs w15 a0 c0 b (unhide HBB w15 (unhide HX15)).2.2.1
    have HC16 := hide (unhide HS1 w15 (unhide HX15) a15' c15' a3' c3' (unhide G__15) (unhide D__15))
    go_wp2_with fail
    refine (unhide HC16).mono ?_
    rintro y w16 ⟨rfl, x16⟩
    dsimp only
    have HX16 := hide ((unhide HX15).trans (x16.mono (unhide HX15).size))
    have D__16 := hide ((unhide D__15).below x16 (Nat.le_refl _))
    have I__16 := hide ((unhide I__15).below x16 (Nat.le_refl _))
    have B__16 := hide ((unhide B__15).below x16 (Nat.le_refl _))
    have G__16 := hide ((unhide G__15).below x16 (Nat.le_refl _))
    clear HC16 HX15 x16 D__15 I__15 B__15 G__15 HS1 s1 s2
    clear B__16
    clear G__16
    have HC17 := hide (unhide HOD w16 (unhide HX16) a3' c3' (unhide D__16))
    go_wp2_with fail
    refine (unhide HC17).mono ?_
    rintro y w17 ⟨a17', c17', rfl, ⟨i17, l17⟩, x17⟩
    dsimp only
    have HX17 := hide ((unhide HX16).trans (x17.mono (unhide HX16).size))
    have D__17 := hide ((unhide D__16).below x17 (Nat.le_refl _))
    have I__17 := hide ((unhide I__16).below x17 (Nat.le_refl _))
    have o_17 := hide (i17)
    clear HC17 HX16 x17 D__16 I__16 i17
    have HC18 := hide (unhide HOI w17 (unhide HX17) a9' c9' (unhide I__17))
    go_wp2_with fail
    refine (unhide HC18).mono ?_
    rintro y w18 ⟨a18', c18', rfl, ⟨i18, l18⟩, x18⟩
    dsimp only
    have HX18 := hide ((unhide HX17).trans (x18.mono (unhide HX17).size))
    have D__18 := hide ((unhide D__17).below x18 (Nat.le_refl _))
    have I__18 := hide ((unhide I__17).below x18 (Nat.le_refl _))
    have o_18 := hide ((unhide o_17).below x18 (Nat.le_refl _))
    have p_18 := hide (i18)
    clear HC18 HX17 x18 D__17 I__17 o_17 i18
    clear I__18
    have HC19 := hide (unhide HCM w18 (unhide HX18) a17' c17' a18' c18' ⟨unhide o_18, l17⟩ ⟨unhide p_18, l18⟩)
    go_wp2_with fail
    refine (unhide HC19).mono ?_
    rintro y w19 ⟨a19', c19', rfl, i19, x19⟩
    dsimp only
    have HX19 := hide ((unhide HX18).trans (x19.mono (unhide HX18).size))
    have D__19 := hide ((unhide D__18).below x19 (Nat.le_refl _))
    have o_19 := hide ((unhide o_18).below x19 (Nat.le_refl _))
    have p_19 := hide ((unhide p_18).below x19 (Nat.le_refl _))
    have C__19 := hide (i19)
    clear HC19 HX18 x19 D__18 o_18 p_18 i19 HCM
    clear o_19
    clear p_19
    clear HB HOD HOI HBT
    have HDA := hide fun (X : World) (hX : Below w19.heap.size w19 X) => (unhide D__19).below hX (Nat.le_refl _)
    have HBA := hide fun (X : World) (hX : Below w19.heap.size w19 X) => unhide HBB X ((unhide HX19).trans (hX.mono (unhide HX19).size))
    have HCA := hide fun (X : World) (hX : Below w19.heap.size w19 X) => (unhide C__19).below hX (Nat.le_refl _)
    have HXA := hide fun (X : World) (hX : Below w19.heap.size w19 X) => (unhide HX19).trans (hX.mono (unhide HX19).size)
    clear D__19 C__19 HX19 HBB
    generalize w19 = wN at *
    go_wp2_with fail
    go_loopw [16, 17, 19, 100] (fun v16 v17 v19 v100 wx => (∃ z, v19 = z) ∧ (∃ (k f : Nat) (L : List Dop), v100 = .int .i64 (k : Int) ∧ v17 = .int .i64 (f : Int) ∧ k ≤ D.length ∧ Hid (BkI D b k f L v16 wN wx))) (fun _ _ _ v100 _ => D.length - (intOf v100).toNat)
    case atStart => exact ⟨⟨_, rfl⟩, ⟨0, 0, [], rfl, rfl, Nat.zero_le _, hide ⟨rfl, rfl, World.ownsRow_nil _ _ _ _, Below.refl _ _⟩⟩⟩
    case round =>
      obtain ⟨⟨z1, rfl⟩, ⟨k, f, L, rfl, rfl, hk, HI⟩⟩ := hrel
      by_cases hlt : k < D.length
      · have t1 : decide ((k : Int) < (D.length : Int)) = true := decide_eq_true (by omega)
        obtain ⟨g, off, hga, hg, c0', c1', c2'⟩ := (unhide HDA wr (unhide HI).d).three hlt
        have hx := val_pln (unhide HVD).1 _ (getD_memD hlt)
        have hbk := bk_ok (unhide HVD).1 (unhide HVD).2 (unhide HBY).2.2.2 k hk
        have e1 := frD_take D hlt
        have e2 := (frD_le D (k + 1)).1
        have hst := runB_take b D hlt
        have hfb := (unhide HVD).2
        have hll := hbk.l
        have hrr := hbk.r
        rw [← (unhide HI).f] at e1 hrr
        rw [(unhide HI).e] at hll
        have hdl := unhide HDL
        have hbl := unhide HBL
        have HNX : Hid (∀ (f' : Nat) (L' : List Dop) (v' : Value) (X : World), f' = frD (D.take (k + 1)) → bkS (b.drop f, L) (D.getD k opZ) = ((bkS (b.drop f, L) (D.getD k opZ)).1, L') → X.ownsRow wN.heap.size 39 3 v' L'.length (opsV L') → Below wN.heap.size wN X → BkI D b (k + 1) f' L' v' wN X) := hide fun f' L' v' X q1 q2 q3 q4 => ⟨by rw [hst, show runB b (D.take k) = (b.drop f, L) from Prod.ext hrr (unhide HI).e, q2], q1, q3, q4⟩
        have HOW := hide (unhide HI).o
        have HBW := hide (unhide HI).d
        have hsl : ∃ sl, sl = a3' := ⟨_, rfl⟩
        clear HI hbk hst hrr hk hsl
        subst hga
        generalize D.getD k opZ = x at *
        obtain ⟨xk, xn, xt⟩ := x
        unfold Pln at hx
        dsimp only at c0' c1' c2' hx
        have kN := Cls.new wr 39 #[.int .i64 xk, .int .i64 xn, .string (strOfNums xt)]
        have HA1 : Hid ((wr.alloc (.cells #[.int .i64 xk, .int .i64 xn, .string (strOfNums xt)] 39)).ownsRow wN.heap.size 39 3 u16 L.length (opsV L) ∧ Below wN.heap.size wN (wr.alloc (.cells #[.int .i64 xk, .int .i64 xn, .string (strOfNums xt)] 39))) := hide ⟨World.ownsRow.alloc (unhide HOW) _, (unhide HBW).alloc (unhide HBW).size _⟩
        have HNE : Hid (u16.ownBlock ≠ some wr.heap.size) := hide fun e => by
          obtain ⟨_, cur, hc⟩ := rowD_block (unhide HOW) e
          have := (Array.getElem?_eq_some_iff.1 hc).1
          omega
        have HKN := hide kN
        obtain ⟨d0, d1, d2⟩ := three_nwD wr (.int .i64 xk) (.int .i64 xn) (.string (strOfNums xt)) (t := 39)
        clear kN HOW HBW
        go_upto_region 18 with fail
        clear c0' c1' c2'
        generalize wr.alloc (.cells #[.int .i64 xk, .int .i64 xn, .string (strOfNums xt)] 39) = v0 at *
        generalize wr.heap.size = gb at *
        rcases hx with ⟨rfl | rfl, hn, rfl⟩ | ⟨rfl, rfl, hn⟩
        · obtain ⟨m, rfl⟩ : ∃ m : Nat, xn = (m : Int) := ⟨xn.toNat, by omega⟩
          rw [show frN ⟨1, (m : Int), []⟩ = m by simp [frN]] at e1
          obtain ⟨g2, c2, W2, r2, o2, b2, q2⟩ := bk_push1 (unhide HA1).1 (unhide HA1).2 (by omega) 1 (m : Int) (strOfNums []) ⟨1, m, []⟩ rfl
          have HN := hide (unhide HNX (f + m) (L ++ [⟨1, m, []⟩]) _ W2 e1.symm (by simp [bkS]) o2 b2)
          have kS : W2.cell? ⟨gb, 1, none⟩ = some (.int .i64 (m : Int)) := ((unhide HKN).same (q2 gb (unhide HKN).lt (unhide HNE))).cell 1
          have R2 := hide r2
          have w1 : wrap64 ((f : Int) + (m : Int)) = ((f + m : Nat) : Int) := by rw [wrapD _ (by omega) (by omega)]; omega
          clear HNX HA1 HNE HKN r2 o2 b2 q2 e1 e2 hll hbl hfb hn
          generalize strOfNums [] = st at *
          generalize L ++ [(⟨1, (m : Int), []⟩ : Dop)] = L2 at *
          generalize L.length + 1 = l2 at *
          generalize f + m = fm at *
          go_wp2_with (at_builtin; refine wpList_append_known rfl _ _ 24 24 rfl _ _ rfl rfl _ _ (unhide R2) ?_; clear R2)
          go_roundw
          case rel => exact ⟨⟨_, rfl⟩, ⟨k + 1, fm, L2, by go_num, by first | rfl | go_num, hlt, HN⟩⟩
          case measure => simp [intOf]; omega
        · obtain ⟨m, rfl⟩ : ∃ m : Nat, xn = (m : Int) := ⟨xn.toNat, by omega⟩
          rw [show frN ⟨3, (m : Int), []⟩ = m by simp [frN]] at e1
          have hby := unhide HBY
          obtain ⟨gq, oq, ha0⟩ : ∃ gq oq, a0 = some ⟨gq, oq, none⟩ := by
            rcases hby.2.2.1 with h3 | ⟨g0, o0, h3, _⟩
            · rw [h3] at hfb; simp at hfb; omega
            · exact ⟨g0, o0, h3⟩
          have hc0 := hby.1
          subst ha0
          have hml : ((b.drop f).take m).length = m := by simp; omega
          have HCV : Hid (∀ Z, Below wN.heap.size wN Z → (convert 22 9 (.slice (some ⟨gq, oq + f, none⟩) (f + m - f) (c0 - f))).run Try.prog Z = .ok (.string (strOfNums ((b.drop f).take m))) Z ∧ (convert 22 9 (.slice (some ⟨gq, oq + f, none⟩) m (c0 - f))).run Try.prog Z = .ok (.string (strOfNums ((b.drop f).take m))) Z) := hide fun Z hZ => by
            have hbm := ((unhide HBA Z hZ).takeD (n := f + m)).loD (n := f)
            rw [if_neg (by omega), Option.map_some, Addr.add_lit] at hbm
            have hrw : (b.take (f + m)).drop f = (b.drop f).take m := by rw [List.drop_take, Nat.add_sub_cancel_left]
            rw [hrw] at hbm
            have := str_bs Z _ (c0 - f) _ hbm.2.2.1
            rw [hml] at this
            rw [Nat.add_sub_cancel_left]
            exact ⟨this, this⟩
          have hdr : v0.drew.ownsRow wN.heap.size 39 3 u16 L.length (opsV L) := rowD_on (unhide HA1).1 fun _ _ => rfl
          have hbd : Below wN.heap.size wN v0.drew := (unhide HA1).2.drew
          obtain ⟨g2, c2, W2, r2, o2, b2, q2⟩ := bk_push2 hdr hbd (by omega) (m : Int) ((b.drop f).take m)
          have HN := hide (unhide HNX (f + m) (L ++ [⟨2, 0, (b.drop f).take m⟩, ⟨3, m, []⟩]) _ W2 e1.symm (by simp [bkS]) o2 b2)
          have kD : Cls v0.drew gb 39 #[.int .i64 3, .int .i64 (m : Int), .string (strOfNums [])] := (unhide HKN).same rfl
          have kA : Cls (v0.drew.alloc (.cells #[.int .i64 2, .int .i64 0, .string (strOfNums ((b.drop f).take m)), .int .i64 3, .int .i64 (m : Int), .string ⟨#[]⟩] 39)) gb 39 #[.int .i64 3, .int .i64 (m : Int), .string (strOfNums [])] := Cls.alloc kD _
          have k2 : Cls W2 gb 39 #[.int .i64 3, .int .i64 (m : Int), .string (strOfNums [])] := kD.same (q2 gb kD.lt (unhide HNE))
          have HS0 := hide (And.intro (show v0.drew.cell? ⟨gb, 0, none⟩ = some (.int .i64 3) from kD.cell 0) (And.intro (show v0.drew.cell? ⟨gb, 1, none⟩ = some (.int .i64 (m : Int)) from kD.cell 1) (And.intro (show v0.drew.cell? ⟨gb, 2, none⟩ = some (.string ⟨#[]⟩) from kD.cell 2) (unhide HCV _ hbd))))
          have HSA := hide (And.intro (show (v0.drew.alloc (.cells #[.int .i64 2, .int .i64 0, .string (strOfNums ((b.drop f).take m)), .int .i64 3, .int .i64 (m : Int), .string ⟨#[]⟩] 39)).cell? ⟨gb, 0, none⟩ = some (.int .i64 3) from kA.cell 0) (And.intro (show (v0.drew.alloc (.cells #[.int .i64 2, .int .i64 0, .string (strOfNums ((b.drop f).take m)), .int .i64 3, .int .i64 (m : Int), .string ⟨#[]⟩] 39)).cell? ⟨gb, 1, none⟩ = some (.int .i64 (m : Int)) from kA.cell 1) (And.intro (show (v0.drew.alloc (.cells #[.int .i64 2, .int .i64 0, .string (strOfNums ((b.drop f).take m)), .int .i64 3, .int .i64 (m : Int), .string ⟨#[]⟩] 39)).cell? ⟨gb, 2, none⟩ = some (.string ⟨#[]⟩) from kA.cell 2) (unhide HCV _ (hbd.alloc hbd.size (.cells #[.int .i64 2, .int .i64 0, .string (strOfNums ((b.drop f).take m)), .int .i64 3, .int .i64 (m : Int), .string ⟨#[]⟩] 39))))))
          have HS2 := hide (And.intro (show W2.cell? ⟨gb, 0, none⟩ = some (.int .i64 3) from k2.cell 0) (And.intro (show W2.cell? ⟨gb, 1, none⟩ = some (.int .i64 (m : Int)) from k2.cell 1) (And.intro (show W2.cell? ⟨gb, 2, none⟩ = some (.string ⟨#[]⟩) from k2.cell 2) (unhide HCV _ b2))))
          have kS : W2.cell? ⟨gb, 1, none⟩ = some (.int .i64 (m : Int)) := k2.cell 1
          have R2 := hide r2
          have HWR : Hid (wrap64 ((f : Int) + (m : Int)) = ((f + m : Nat) : Int) ∧ IntKind.i64.wrap ((f : Int) + (m : Int)) = ((f + m : Nat) : Int)) := hide ⟨by rw [wrapD _ (by omega) (by omega)]; omega, by rw [IntKind.wrap_i64]; omega⟩
          have b1 : f + m ≤ c0 := by omega
          have b3 : f ≤ f + m := by omega
          have b4 : ¬ c0 = f := by omega
          have hfm : f + m ≤ b.length := by omega
          clear HNX HA1 HNE HKN r2 o2 b2 q2 e1 e2 hll hbl hfb hn hdr hbd kD kA k2 HCV hby hml
          rw [show strOfNums [] = (⟨#[]⟩ : ByteArray) from rfl] at *
          generalize strOfNums ((b.drop f).take m) = st at *
          generalize L ++ [(⟨2, 0, (b.drop f).take m⟩ : Dop), ⟨3, (m : Int), []⟩] = L2 at *
          generalize L.length + 2 = l2 at *
          generalize f + m = fm at *
          obtain ⟨w1, w1'⟩ := unhide HWR
          clear HWR
          go_upto_region 23 with fail
          refine regionL (S := fun w' => w'.cell? ⟨gb, 0, none⟩ = some (.int .i64 3) ∧ w'.cell? ⟨gb, 1, none⟩ = some (.int .i64 (m : Int)) ∧ w'.cell? ⟨gb, 2, none⟩ = some (.string ⟨#[]⟩) ∧ (convert 22 9 (.slice (some ⟨gq, oq + f, none⟩) (fm - f) (c0 - f))).run Try.prog w' = .ok (.string st) w' ∧ (convert 22 9 (.slice (some ⟨gq, oq + f, none⟩) m (c0 - f))).run Try.prog w' = .ok (.string st) w') (fun _ => false) (by kernel_rfl) ?_
          refine anyL_take (i := 0) (v := ?vbk0) rfl (by kernel_rfl) (by kernel_rfl) (by kernel_rfl) (by kernel_rfl) (fun _ _ _ h => h) (Or.inl ⟨by rfl, ?hbk0⟩) (unhide HS0) ?_
          case hbk0 => (intro w hSw; (try dsimp only at hSw); go_simp) <;> with_reducible rfl
          simp only [Act.put, List.getElem_toArray, List.getElem_cons_zero, List.setIfInBounds_toArray, List.set_cons_zero, List.set_cons_succ]
          refine anyL_take (i := 1) (v := ?vbk1) rfl (by kernel_rfl) (by kernel_rfl) (by kernel_rfl) (by kernel_rfl) (fun _ _ _ h => h) (Or.inl ⟨by rfl, ?hbk1⟩) (unhide HS0) ?_
          case hbk1 => (intro w hSw; (try dsimp only at hSw); go_simp) <;> with_reducible rfl
          simp only [Act.put, List.getElem_toArray, List.getElem_cons_zero, List.getElem_cons_succ, List.setIfInBounds_toArray, List.set_cons_zero, List.set_cons_succ]
          refine anyL_take (i := 2) (v := ?vbk2) rfl (by kernel_rfl) (by kernel_rfl) (by kernel_rfl) (by kernel_rfl) (fun _ _ _ h => h) (Or.inl ⟨by rfl, ?hbk2⟩) (unhide HS0) ?_
          case hbk2 => (intro w hSw; (try dsimp only at hSw); go_simp) <;> with_reducible rfl
          simp only [Act.put, List.getElem_toArray, List.getElem_cons_zero, List.getElem_cons_succ, List.setIfInBounds_toArray, List.set_cons_zero, List.set_cons_succ]
          refine anyL_take (i := 3) (v := ?vbk3) rfl (by kernel_rfl) (by kernel_rfl) (by kernel_rfl) (by kernel_rfl) (fun _ _ _ h => h) (Or.inl ⟨by rfl, ?hbk3⟩) (unhide HS0) ?_
          case hbk3 => (intro w hSw; (try dsimp only at hSw); go_simp) <;> with_reducible rfl
          simp only [Act.put, List.getElem_toArray, List.getElem_cons_zero, List.getElem_cons_succ, List.setIfInBounds_toArray, List.set_cons_zero, List.set_cons_succ]
          refine anyL_take (i := 4) (v := ?vbk4) rfl (by kernel_rfl) (by kernel_rfl) (by kernel_rfl) (by kernel_rfl) (fun _ _ _ h => h) (Or.inl ⟨by rfl, ?hbk4⟩) (unhide HS0) ?_
          case hbk4 => (intro w hSw; (try dsimp only at hSw); go_simp) <;> with_reducible rfl
          simp only [Act.put, List.getElem_toArray, List.getElem_cons_zero, List.getElem_cons_succ, List.setIfInBounds_toArray, List.set_cons_zero, List.set_cons_succ]
          refine anyL_take (i := 5) (v := ?vbk5) rfl (by kernel_rfl) (by kernel_rfl) (by kernel_rfl) (by kernel_rfl) (fun _ _ _ h => h) (Or.inl ⟨by rfl, ?hbk5⟩) (unhide HS0) ?_
          case hbk5 => (intro w hSw; (try dsimp only at hSw); go_simp) <;> with_reducible rfl
          simp only [Act.put, List.getElem_toArray, List.getElem_cons_zero, List.getElem_cons_succ, List.setIfInBounds_toArray, List.set_cons_zero, List.set_cons_succ]
          refine anyL_take (i := 6) (v := ?vbk6) rfl (by kernel_rfl) (by kernel_rfl) (by kernel_rfl) (by kernel_rfl) (fun _ _ _ h => h) (Or.inl ⟨by rfl, ?hbk6⟩) (unhide HS0) ?_
          case hbk6 => (intro w hSw; (try dsimp only at hSw); go_simp) <;> with_reducible rfl
          simp only [Act.put, List.getElem_toArray, List.getElem_cons_zero, List.getElem_cons_succ, List.setIfInBounds_toArray, List.set_cons_zero, List.set_cons_succ]
          refine anyL_take (i := 7) (v := ?vbk7) rfl (by kernel_rfl) (by kernel_rfl) (by kernel_rfl) (by kernel_rfl) (fun _ _ _ h => h) (Or.inl ⟨by rfl, ?hbk7⟩) (unhide HS0) ?_
          case hbk7 => (intro w hSw; (try dsimp only at hSw); go_simp) <;> with_reducible rfl
          simp only [Act.put, List.getElem_toArray, List.getElem_cons_zero, List.getElem_cons_succ, List.setIfInBounds_toArray, List.set_cons_zero, List.set_cons_succ]
          refine anyL_take (i := 8) (v := ?vbk8) rfl (by kernel_rfl) (by kernel_rfl) (by kernel_rfl) (by kernel_rfl) (fun _ _ _ h => h) (Or.inl ⟨by rfl, ?hbk8⟩) (unhide HS0) ?_
          case hbk8 => (intro w hSw; (try dsimp only at hSw); go_simp) <;> with_reducible rfl
          simp only [Act.put, List.getElem_toArray, List.getElem_cons_zero, List.getElem_cons_succ, List.setIfInBounds_toArray, List.set_cons_zero, List.set_cons_succ]
          refine anyL_take (i := 9) (v := ?vbk9) rfl (by kernel_rfl) (by kernel_rfl) (by kernel_rfl) (by kernel_rfl) (fun _ _ _ h => h) (Or.inl ⟨by rfl, ?hbk9⟩) (unhide HS0) ?_
          case hbk9 => (intro w hSw; (try dsimp only at hSw); go_simp) <;> with_reducible rfl
          simp only [Act.put, List.getElem_toArray, List.getElem_cons_zero, List.getElem_cons_succ, List.setIfInBounds_toArray, List.set_cons_zero, List.set_cons_succ]
          refine anyL_take (i := 10) (v := ?vbk10) rfl (by kernel_rfl) (by kernel_rfl) (by kernel_rfl) (by kernel_rfl) (fun _ _ _ h => h) (Or.inl ⟨by rfl, ?hbk10⟩) (unhide HS0) ?_
          case hbk10 => (intro w hSw; (try dsimp only at hSw); go_simp) <;> with_reducible rfl
          simp only [Act.put, List.getElem_toArray, List.getElem_cons_zero, List.getElem_cons_succ, List.setIfInBounds_toArray, List.set_cons_zero, List.set_cons_succ]
          refine anyL_ready (rs := [11]) (by kernel_rfl) (by simp) ?_
          refine AllL.cons rfl (fun K hK => ?_) AllL.nil
          go_simp
          refine unhide hK _ _ (fun _ => unhide HSA) ?_
          clear hK K
          refine anyL_ready (rs := [12]) (by kernel_rfl) (by simp) ?_
          refine AllL.cons rfl (fun K hK => ?_) AllL.nil
          refine step_append_in rfl _ _ 24 24 rfl _ _ rfl rfl _ _ (unhide R2) ?_
          go_simp
          clear R2
          refine unhide hK _ _ (fun _ => unhide HS2) ?_
          clear hK K
          refine anyL_take (i := 13) (v := ?vbk11) rfl (by kernel_rfl) (by kernel_rfl) (by kernel_rfl) (by kernel_rfl) (fun _ _ _ h => h) (Or.inl ⟨by rfl, ?hbk11⟩) (unhide HS2) ?_
          case hbk11 => (intro w hSw; (try dsimp only at hSw); go_simp) <;> with_reducible rfl
          simp only [Act.put, List.getElem_toArray, List.getElem_cons_zero, List.getElem_cons_succ, List.setIfInBounds_toArray, List.set_cons_zero, List.set_cons_succ]
          refine anyL_done (by kernel_rfl) ?_ _
          clear d0 d1 d2 HS0 HSA HS2
          go_wp2_with fail
          go_roundw
          case rel => exact ⟨⟨_, rfl⟩, ⟨k + 1, fm, L2, by go_num, by first | rfl | go_num, hlt, HN⟩⟩
          case measure => simp [intOf]; omega
        · rw [show frN ⟨2, 0, xt⟩ = 0 by simp [frN]] at e1
          have HN := hide (unhide HNX f L _ v0 (by omega) (by simp [bkS]) (unhide HA1).1 (unhide HA1).2)
          clear HNX HA1 HNE HKN e1 e2 hll hbl hfb hn
          generalize strOfNums xt = st at *
          go_wp2_with fail
          go_roundw
          case rel => exact ⟨⟨_, rfl⟩, ⟨k + 1, f, L, by go_num, rfl, hlt, HN⟩⟩
          case measure => simp [intOf]; omega
      · obtain rfl : k = D.length := by omega
        have t1 : decide (((D.length : Nat) : Int) < (D.length : Int)) = false := by simp
        have hE := (unhide HI).e
        rw [List.take_length] at hE
        subst hE
        obtain ⟨a8, c8, hu, i8, _⟩ := own_isOC (unhide HI).o
        subst hu
        have HC1 := hide (unhide HRC wr a8 c8 i8)
        have HBW := hide (unhide HI).d
        clear HI hk hlt HRC i8 HDA HBA HBY HVD HDL HBL
        generalize (runB b D).2.length = rl at *
        go_wp2_with fail
        refine (unhide HC1).mono ?_
        rintro yy w8 ⟨a9, c9, rfl, i9, x9⟩
        dsimp only
        have HBX := hide ((unhide HBW).trans (x9.mono (unhide HBW).size))
        have HC2 := hide (unhide HS2 w8 (unhide HXA w8 (unhide HBX)) a19' c19' a9 c9 (unhide HCA w8 (unhide HBX)) i9)
        clear HC1 HBW x9 i9 HS2 HCA
        go_wp2_with fail
        refine (unhide HC2).mono ?_
        rintro yy w9 ⟨rfl, x9⟩
        dsimp only
        have HXX := hide ((unhide HXA w8 (unhide HBX)).trans (x9.mono (unhide HXA w8 (unhide HBX)).size))
        clear HC2 HBX HXA x9
        go_wp2_with fail
        refine bodyPost_ret (results_tmp rfl _ _ _) rfl ⟨rfl, unhide HXX⟩

end Go.Proofs.Ytecolpnbbpbflab
