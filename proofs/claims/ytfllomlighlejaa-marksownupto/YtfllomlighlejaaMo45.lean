/- Layer 15, the document's: Drop, Behind. · Layer 15: the program's marks beside the document's (written by wip/tools/mkv.py). -/
import Derived.Test.YtfllomlighlejaaMo44
import Derived.Test.YtfllomlighlejaaMo40
import Derived.Test.YtfllomlighlejaaMo25

section
namespace Go.Proofs.Ytfllomlighlejaa
open Go.ChangeShapes Go.WideShapes Go.ChangeAt Go.RowKit
attribute [local go_sem] Oper.semAt_some

set_option maxRecDepth 100000 in
set_option maxHeartbeats 4000000 in
theorem RDrop_all (n : Int) (a : Option Addr) (c : Nat) (l : List Mk) (s : ByteArray) (X : World) (h : IsK X a l) (hl : l.length ≤ 1048576) :
    Calls Try.prog 34 #[msV n a l.length c, .string s] X fun y X' => (getM s l = none ∧ y = .returned (.tuple #[msV n a l.length c, .int .i64 150]) ∧ Below X.heap.size X X') ∨ ((getM s l).isSome = true ∧ ∃ v, y = .returned (.tuple #[.agg #[.int .i64 n, v], .int .i64 0]) ∧ X'.ownsRow X.heap.size 42 3 v (delM s l).length (mksV (delM s l)) ∧ Below X.heap.size X X') := by
  have HFd := hide fun (Y : World) (hY : Below X.heap.size X Y) => RFind_at n a c l s Y (h.below hY (Nat.le_refl _)) hl
  have HWo := hide fun (Y : World) (hY : Below X.heap.size X Y) => RWithout_at a c l (fdM s l) Y (h.below hY (Nat.le_refl _)) hl
  rw [wo_find] at HWo
  obtain ⟨fv, hfv, hfn⟩ : ∃ fv : Int, fdM s l = fv ∧ ((getM s l).isSome = decide (0 ≤ fv)) := by
    refine ⟨_, rfl, ?_⟩
    unfold fdM getM
    cases atM s l 0 with
    | none => rfl
    | some y => simp
  rw [hfv] at HFd HWo
  generalize delM s l = D at *
  have HG : Hid ((fv < 0 → getM s l = none) ∧ (¬ fv < 0 → (getM s l).isSome = true)) := hide ⟨fun hf => by
    have : (getM s l).isSome = false := by rw [hfn]; exact decide_eq_false (by omega)
    simpa using this, fun hf => by rw [hfn]; exact decide_eq_true (by omega)⟩
  generalize getM s l = gm at *
  clear h hfv hfn
  obtain ⟨N, hN⟩ : ∃ N, N = l.length := ⟨_, rfl⟩
  rw [← hN] at hl HFd HWo ⊢
  clear hN
  unfold msV at HFd ⊢
  have k2 := (Cls.new X 29 #[.int .i64 n, .slice a N c]).alloc (.cells #[.int .i64 0, .slice none 0 0] 29)
  have k4 := Cls.new (X.alloc (.cells #[.int .i64 n, .slice a N c] 29)) 29 #[.int .i64 0, .slice none 0 0]
  have b1 := (Below.refl X.heap.size X).alloc (Nat.le_refl _) (.cells #[.int .i64 n, .slice a N c] 29)
  have b3 := b1.alloc b1.size (.cells #[.int .i64 0, .slice none 0 0] 29)
  rw [World.size_alloc] at k4
  have HK := hide (And.intro k2 k4)
  have HB := hide b3
  obtain ⟨c0, c1⟩ := k2.two
  have HC1 := hide (unhide HFd _ b3)
  clear k2 k4 b1 b3 HFd
  by_cases ef : fv < 0
  · have t7 : decide (fv < 0) = true := decide_eq_true ef
    have hg := (unhide HG).1 ef
    subst hg
    clear ef HWo HG
    go_enter Try.func34, Try.ntmps34
    go_wp2_with fail
    refine (unhide HC1).mono ?_
    rintro y w1 ⟨rfl, x1⟩
    dsimp only
    obtain ⟨k2, k4⟩ := unhide HK
    have k2 := k2.below x1 k2.lt
    have k4 := k4.below x1 k4.lt
    have hb1 := (unhide HB).trans (x1.mono (unhide HB).size)
    clear HC1 HK HB x1 c0 c1
    obtain ⟨c0, c1⟩ := k2.two
    have k9 := (k4.put2 (.int .i64 n) (.slice a N c) hb1 (show X.heap.size ≤ X.heap.size + 1 by omega))
    obtain ⟨r0, r1⟩ := k9.1.two
    have HB9 := hide k9.2
    have f0 := k4.frozen 0
    have f1 := k4.frozen 1
    obtain ⟨z0, z1⟩ := k4.two
    clear k9 k2 k4 hb1
    go_wp2_with fail
    refine bodyPost_ret (v := .tuple #[.agg #[.int .i64 n, .slice a N c], .int .i64 150]) (by simp [results, Try.results34, go_sem, r0, r1]) rfl (.inl ⟨by first | trivial | rfl, rfl, unhide HB9⟩)
  · have t7 : decide (fv < 0) = false := decide_eq_false ef
    have HGS := hide ((unhide HG).2 ef)
    clear ef HG
    go_enter Try.func34, Try.ntmps34
    go_wp2_with fail
    refine (unhide HC1).mono ?_
    rintro y w1 ⟨rfl, x1⟩
    dsimp only
    obtain ⟨k2, k4⟩ := unhide HK
    have k2 := k2.below x1 k2.lt
    have k4 := k4.below x1 k4.lt
    have hb1 := (unhide HB).trans (x1.mono (unhide HB).size)
    have HB1 := hide hb1
    have HK1 := hide (And.intro k2 k4)
    clear HC1 HK HB x1 c0 c1
    obtain ⟨c0, c1⟩ := k2.two
    have HC2 := hide (unhide HWo w1 hb1)
    clear k2 k4 hb1 HWo
    go_wp2_with fail
    refine (unhide HC2).mono ?_
    rintro y w3 ⟨v3, rfl, o3, x3⟩
    dsimp only
    obtain ⟨k2, k4⟩ := unhide HK1
    have k2 := k2.below x3 k2.lt
    have k4 := k4.below x3 k4.lt
    have hb3 := (unhide HB1).trans (x3.mono (unhide HB1).size)
    clear c0 c1
    obtain ⟨c0, c1⟩ := k2.two
    obtain ⟨av, cv, hv3, _⟩ := rowD_form o3
    subst hv3
    have o3' := rowD_base o3 (unhide HB1).size
    have k9 := (k4.put2 (.int .i64 n) (.slice av D.length cv) hb3 (show X.heap.size ≤ X.heap.size + 1 by omega))
    obtain ⟨r0, r1⟩ := k9.1.two
    have HB9 := hide k9.2
    have HO9 : Hid (((w3.setCell ⟨X.heap.size + 1, 0, none⟩ (.int .i64 n)).setCell ⟨X.heap.size + 1, 1, none⟩ (.slice av D.length cv)).ownsRow X.heap.size 42 3 (.slice av D.length cv) D.length (mksV D)) := hide (rowD_on o3' fun G hG => by
      have hne : G ≠ X.heap.size + 1 := fun e => by
        obtain ⟨_, cur, hc⟩ := rowD_block o3' hG
        unfold Cls at k4
        rw [e, k4] at hc
        cases hc
      rw [Below.heap_setCell _ ⟨X.heap.size + 1, 1, none⟩ _ G hne, Below.heap_setCell _ ⟨X.heap.size + 1, 0, none⟩ _ G hne])
    have f0 := k4.frozen 0
    have f1 := k4.frozen 1
    obtain ⟨z0, z1⟩ := k4.two
    clear HC2 HK1 HB1 x3 o3 o3' k2 k4 k9 hb3
    go_wp2_with fail
    refine bodyPost_ret (v := .tuple #[.agg #[.int .i64 n, .slice av D.length cv], .int .i64 0]) (by simp [results, Try.results34, go_sem, r0, r1]) rfl (.inr ⟨unhide HGS, _, rfl, unhide HO9, unhide HB9⟩)
/-- what Behind's loop keeps: the marks that are put together -/
structure BhJ (X1 wx : World) (G : Nat) (TD : Int) (q : List Mk) : Prop where
  c : ∃ a c, Cls wx G 29 #[.int .i64 TD, .slice a q.length c] ∧ wx.ownsRow X1.heap.size 42 3 (.slice a q.length c) q.length (mksV q)
  d : Below X1.heap.size X1 wx
  g : X1.heap.size ≤ G
set_option maxRecDepth 100000 in
set_option maxHeartbeats 8000000 in
theorem RBeh_all (n : Int) (a : Option Addr) (c : Nat) (l : List Mk) (ad : Option Addr) (cd : Nat) (d : List Dop) (X : World) (h : IsK X a l) (hl : l.length ≤ 1048576) (ho : IsO X ad d) (hdl : d.length ≤ 4611686018427387904) (ht : txD d ≤ 1099511627776) :
    Calls Try.prog 19 #[msV n a l.length c, .slice ad d.length cd] X fun y X' => (valB d = false ∧ y = .returned (.tuple #[msV n a l.length c, .int .i64 130]) ∧ Below X.heap.size X X') ∨ (valB d = true ∧ (frD d : Int) ≠ n ∧ y = .returned (.tuple #[msV n a l.length c, .int .i64 131]) ∧ Below X.heap.size X X') ∨ (valB d = true ∧ (frD d : Int) = n ∧ ∃ v, y = .returned (.tuple #[.agg #[.int .i64 (toD d), v], .int .i64 0]) ∧ X'.ownsRow X.heap.size 42 3 v (movM (mvM d) l).length (mksV (movM (mvM d) l)) ∧ Below X.heap.size X X') := by
  have HVa := hide fun (Y : World) (hY : Below X.heap.size X Y) => RValid14_at ad cd d Y (ho.below hY (Nat.le_refl _)) hdl ht
  have HLn := hide fun (hv : valB d = true) (Y : World) (hY : Below X.heap.size X Y) => RLensM_at ad cd d Y (ho.below hY (Nat.le_refl _)) hdl hv
  have HPl := hide fun (Y : World) (hY : Below X.heap.size X Y) (p g : Int) => RPlace14_at ad cd d p g Y (ho.below hY (Nat.le_refl _)) hdl ht
  have HPu := hide fun (Y : World) (a2 : Option Addr) (c2 : Nat) (q : List Mk) (m : Mk) (hY : IsK Y a2 q) (hq : q.length ≤ 1048576) => RPut_at a2 c2 q m Y hY hq
  obtain ⟨N, hN⟩ : ∃ N, N = l.length := ⟨_, rfl⟩
  have HN := hide hN
  have HLK := hide fun (Y : World) (hY : Below X.heap.size X Y) => h.below hY (Nat.le_refl _)
  rw [← hN] at hl ⊢
  clear hN h ho hdl ht
  unfold msV
  have k2 := (Cls.new X 29 #[.int .i64 n, .slice a N c]).alloc (.cells #[.int .i64 0, .slice none 0 0] 29)
  have k4 := Cls.new (X.alloc (.cells #[.int .i64 n, .slice a N c] 29)) 29 #[.int .i64 0, .slice none 0 0]
  have b1 := (Below.refl X.heap.size X).alloc (Nat.le_refl _) (.cells #[.int .i64 n, .slice a N c] 29)
  have b3 := b1.alloc b1.size (.cells #[.int .i64 0, .slice none 0 0] 29)
  rw [World.size_alloc] at k4
  have HK := hide (And.intro k2 k4)
  have HB := hide b3
  have HC1 := hide (unhide HVa _ b3)
  clear k2 k4 b1 b3 HVa
  cases hv : valB d with
  | false =>
    rw [hv] at HC1
    clear HLn HPl HPu hv
    go_enter Try.func19, Try.ntmps19
    go_wp2_with fail
    refine (unhide HC1).mono ?_
    rintro y w1 ⟨rfl, x1⟩
    dsimp only
    obtain ⟨k2, k4⟩ := unhide HK
    have k2 := k2.below x1 k2.lt
    have k4 := k4.below x1 k4.lt
    have hb1 := (unhide HB).trans (x1.mono (unhide HB).size)
    clear HC1 HK HB x1
    obtain ⟨c0, c1⟩ := k2.two
    have k9 := (k4.put2 (.int .i64 n) (.slice a N c) hb1 (show X.heap.size ≤ X.heap.size + 1 by omega))
    obtain ⟨r0, r1⟩ := k9.1.two
    have HB9 := hide k9.2
    have f0 := k4.frozen 0
    have f1 := k4.frozen 1
    obtain ⟨z0, z1⟩ := k4.two
    clear k9 k2 k4 hb1
    go_wp2_with fail
    refine bodyPost_ret (v := .tuple #[.agg #[.int .i64 n, .slice a N c], .int .i64 130]) (by simp [results, Try.results19, go_sem, r0, r1]) rfl (.inl ⟨by first | trivial | rfl, rfl, unhide HB9⟩)
  | true =>
    rw [hv] at HC1
    have HLn2 := hide (unhide HLn hv)
    obtain ⟨R0, hR0⟩ : ∃ R0, R0 = movM (mvM d) l := ⟨_, rfl⟩
    rw [← hR0]
    have HR : Hid ((l.drop 0).foldl (fun o x => insM (mvM d x) o) [] = R0) := hide (by rw [hR0]; rfl)
    clear HLn hR0 hv
    generalize (frD d : Int) = FD at *
    generalize (toD d : Int) = TD at *
    by_cases hf : FD = n
    case neg =>
      have t1 : (FD != n) = true := by simpa using hf
      have t1' : (FD == n) = false := by simpa using hf
      have HF := hide hf
      clear HPl HPu HR hf
      go_enter Try.func19, Try.ntmps19
      go_wp2_with fail
      refine (unhide HC1).mono ?_
      rintro y w1 ⟨rfl, x1⟩
      dsimp only
      obtain ⟨k2, k4⟩ := unhide HK
      have k2 := k2.below x1 k2.lt
      have k4 := k4.below x1 k4.lt
      have hb1 := (unhide HB).trans (x1.mono (unhide HB).size)
      have HC2 := hide (unhide HLn2 w1 hb1)
      have HB1 := hide hb1
      have HK1 := hide (And.intro k2 k4)
      clear HC1 HK HB x1 k2 k4 hb1 HLn2
      go_wp2_with fail
      refine (unhide HC2).mono ?_
      rintro y w2 ⟨rfl, x2⟩
      dsimp only
      obtain ⟨k2, k4⟩ := unhide HK1
      have k2 := k2.below x2 k2.lt
      have k4 := k4.below x2 k4.lt
      have hb2 := (unhide HB1).trans (x2.mono (unhide HB1).size)
      clear HC2 HK1 HB1 x2
      obtain ⟨c0, c1⟩ := k2.two
      have k9 := (k4.put2 (.int .i64 n) (.slice a N c) hb2 (show X.heap.size ≤ X.heap.size + 1 by omega))
      obtain ⟨r0, r1⟩ := k9.1.two
      have HB9 := hide k9.2
      have f0 := k4.frozen 0
      have f1 := k4.frozen 1
      obtain ⟨z0, z1⟩ := k4.two
      clear k9 k2 k4 hb2
      go_wp2_with fail
      refine bodyPost_ret (v := .tuple #[.agg #[.int .i64 n, .slice a N c], .int .i64 131]) (by simp [results, Try.results19, go_sem, r0, r1]) rfl (.inr (.inl ⟨by first | trivial | rfl, unhide HF, rfl, unhide HB9⟩))
    subst hf
    go_enter Try.func19, Try.ntmps19
    go_wp2_with fail
    refine (unhide HC1).mono ?_
    rintro y w1 ⟨rfl, x1⟩
    dsimp only
    obtain ⟨k2, k4⟩ := unhide HK
    have k2 := k2.below x1 k2.lt
    have k4 := k4.below x1 k4.lt
    have hb1 := (unhide HB).trans (x1.mono (unhide HB).size)
    have HC2 := hide (unhide HLn2 w1 hb1)
    have HB1 := hide hb1
    have HK1 := hide (And.intro k2 k4)
    clear HC1 HK HB x1 k2 k4 hb1 HLn2
    go_wp2_with fail
    refine (unhide HC2).mono ?_
    rintro y w2 ⟨rfl, x2⟩
    dsimp only
    obtain ⟨k2, k4⟩ := unhide HK1
    have k2 := k2.below x2 k2.lt
    have k4 := k4.below x2 k4.lt
    have hb2 := (unhide HB1).trans (x2.mono (unhide HB1).size)
    obtain ⟨c0, c1⟩ := k2.two
    have b9 := (Below.refl w2.heap.size w2).alloc (Nat.le_refl _) (.cells #[.int .i64 TD, .slice none 0 0] 29)
    have HJ0 : Hid (BhJ w2 (w2.alloc (.cells #[.int .i64 TD, .slice none 0 0] 29)) w2.heap.size TD []) := hide ⟨⟨none, 0, Cls.new w2 _ _, World.ownsRow_nil _ _ _ _⟩, b9, Nat.le_refl _⟩
    have HB2 := hide hb2
    have HK2 := hide (And.intro k2 k4)
    clear HC2 HK1 HB1 x2 k2 k4 hb2 b9
    go_wp2_with fail
    clear c0 c1
    generalize hG : w2.heap.size = G9 at *
    go_loopw [10, 11, 12, 13] (fun v10 v11 v12 v13 wx => ((∃ z, v11 = z) ∧ (∃ z, v12 = z) ∧ (∃ z, v13 = z)) ∧ ∃ i : Nat, v10 = .int .i64 (i : Int) ∧ i ≤ N ∧ Hid (∃ q, BhJ w2 wx G9 TD q ∧ q.length = i ∧ (l.drop i).foldl (fun o x => insM (mvM d x) o) q = R0)) (fun v10 _ _ _ _ => N - (intOf v10).toNat)
    case atStart => exact ⟨⟨⟨_, rfl⟩, ⟨_, rfl⟩, ⟨_, rfl⟩⟩, 0, rfl, Nat.zero_le _, hide ⟨[], unhide HJ0, rfl, unhide HR⟩⟩
    case round =>
      clear HJ0 HR
      obtain ⟨⟨⟨y1, rfl⟩, ⟨y2, rfl⟩, ⟨y3, rfl⟩⟩, i, rfl, hi, HI⟩ := hrel
      obtain ⟨q, hJ, hq, hR⟩ := unhide HI
      have kx := (unhide HK2).1.below hJ.d (unhide HK2).1.lt
      obtain ⟨c0, c1⟩ := kx.two
      by_cases hlt : i < N
      · have t1 : decide ((i : Int) < (N : Int)) = true := decide_eq_true (by omega)
        have hlt' : i < l.length := by rw [← unhide HN]; exact hlt
        rw [dropM_getD l hlt', List.foldl_cons] at hR
        have hbX := (unhide HB2).trans (hJ.d.mono (unhide HB2).size)
        obtain ⟨eg, eo, ha, heg, e0, e1, e2⟩ := (unhide HLK wr hbX).three hlt'
        subst ha
        generalize l.getD i mkZ = m at *
        obtain ⟨mn, mp, mg⟩ := m
        dsimp only at e0 e1 e2
        have ba := (Below.refl wr.heap.size wr).alloc (Nat.le_refl _) (.cells #[.string mn, .int .i64 mp, .int .i64 mg] 42)
        have k1 := Cls.new wr 42 #[.string mn, .int .i64 mp, .int .i64 mg]
        have d1 := (k1.cell 1).trans rfl
        have d2 := (k1.cell 2).trans rfl
        have HC3 := hide (unhide HPl _ (hbX.trans (ba.mono hbX.size)) mp mg)
        unfold mvM at hR
        dsimp only at hR
        obtain ⟨V1, hV1⟩ : ∃ V1, V1 = plV d mp mg := ⟨_, rfl⟩
        rw [← hV1] at HC3 hR
        have HJ := hide hJ
        have HRq := hide (And.intro hq hR)
        have HB1 := hide ba
        have HK1 := hide k1
        clear HI hJ hq hR ba k1 kx hV1 hlt' hbX
        go_wp2_with fail
        refine (unhide HC3).mono ?_
        rintro y w3 ⟨rfl, x3⟩
        dsimp only
        have hB3 := (unhide HB1).trans (x3.mono (unhide HB1).size)
        have k3 := (unhide HK1).below x3 (unhide HK1).lt
        have g1 := (k3.cell 1).trans rfl
        have y1 := k3.frozen 1
        have k9 : Cls (w3.setCell ⟨wr.heap.size, 1, none⟩ (.int .i64 V1)) wr.heap.size 42 #[.string mn, .int .i64 V1, .int .i64 mg] := k3.set 1 (.int .i64 V1)
        have hB9 := hB3.setCell (p := ⟨wr.heap.size, 1, none⟩) (Nat.le_refl _) (.int .i64 V1)
        have HB9 := hide hB9
        have HK9 := hide k9
        clear HC3 HB1 HK1 x3 hB3 k3 k9 hB9 d1 d2 e0 e1 e2 c0 c1
        go_upto_region 14 with fail
        clear g1 y1
        generalize w3.setCell ⟨wr.heap.size, 1, none⟩ (.int .i64 V1) = w9 at *
        obtain ⟨av, cv, kc, oc⟩ := (unhide HJ).c
        have kc9 := kc.below (unhide HB9) kc.lt
        have oc9 := rowD_below oc (unhide HB9) (Nat.le_refl _)
        obtain ⟨aw, cw, ew, iw, _⟩ := own_isK oc9
        obtain ⟨_, l1⟩ := kc9.two
        have d0 := ((unhide HK9).cell 0).trans rfl
        have d1 := ((unhide HK9).cell 1).trans rfl
        have d2 := ((unhide HK9).cell 2).trans rfl
        injection ew with ew1 ew2 ew3
        subst ew1 ew3
        have HC4 := hide (unhide HPu w9 av cv q ⟨mn, V1, mg⟩ iw (by have := (unhide HRq).1; omega))
        unfold mkV at HC4
        dsimp only at HC4
        have HKC := hide kc9
        clear kc oc kc9 oc9 iw HK9
        go_wp2_with fail
        refine (unhide HC4).mono ?_
        rintro y wA ⟨vA, rfl, oA, xA⟩
        dsimp only
        have kA := (unhide HKC).below xA (unhide HKC).lt
        have hbA := (unhide HB9).trans (xA.mono (unhide HB9).size)
        have hdA := (unhide HJ).d.trans (hbA.mono (unhide HJ).d.size)
        obtain ⟨aA, cA, hvA, _⟩ := rowD_form oA
        subst hvA
        have oA' := rowD_base oA (Nat.le_trans (unhide HJ).d.size (unhide HB9).size)
        obtain ⟨_, l1⟩ := kA.two
        have fz := kA.frozen 1
        have kB : Cls (wA.setCell ⟨G9, 1, none⟩ (.slice aA (insM ⟨mn, V1, mg⟩ q).length cA)) G9 29 #[.int .i64 TD, .slice aA (insM ⟨mn, V1, mg⟩ q).length cA] := kA.set 1 _
        have oB : (wA.setCell ⟨G9, 1, none⟩ (.slice aA (insM ⟨mn, V1, mg⟩ q).length cA)).ownsRow w2.heap.size 42 3 (.slice aA (insM ⟨mn, V1, mg⟩ q).length cA) (insM ⟨mn, V1, mg⟩ q).length (mksV (insM ⟨mn, V1, mg⟩ q)) := rowD_on oA' fun G hGG => by
          have hne : G ≠ G9 := fun e => by
            obtain ⟨_, cur, hc⟩ := rowD_block oA' hGG
            unfold Cls at kA
            rw [e, kA] at hc
            cases hc
          exact Below.heap_setCell _ ⟨G9, 1, none⟩ _ G hne
        have HJ2 : Hid (∃ q', BhJ w2 (wA.setCell ⟨G9, 1, none⟩ (.slice aA (insM ⟨mn, V1, mg⟩ q).length cA)) G9 TD q' ∧ q'.length = i + 1 ∧ (l.drop (i + 1)).foldl (fun o x => insM (mvM d x) o) q' = R0) := hide ⟨insM ⟨mn, V1, mg⟩ q, ⟨⟨_, _, kB, oB⟩, hdA.setCell (p := ⟨G9, 1, none⟩) (unhide HJ).g _, (unhide HJ).g⟩, by rw [insM_len, (unhide HRq).1], (unhide HRq).2⟩
        clear HC4 HKC HB9 kA hbA hdA oA oA' kB oB xA HJ HRq d0 d1 d2
        go_wp2_with fail
        go_roundw
        case rel => exact ⟨⟨⟨_, rfl⟩, ⟨_, rfl⟩, ⟨_, rfl⟩⟩, i + 1, by go_num, hlt, HJ2⟩
        case measure => simp [intOf]; omega
      · obtain rfl : i = N := by omega
        have t1 : decide ((i : Int) < (i : Int)) = false := decide_eq_false (by omega)
        rw [unhide HN, List.drop_length] at hR
        rw [List.foldl_nil] at hR
        subst hR
        obtain ⟨av, cv, kc, oc⟩ := hJ.c
        obtain ⟨l0, l1⟩ := kc.two
        have k4 := (unhide HK2).2.below hJ.d (unhide HK2).2.lt
        have hbX := (unhide HB2).trans (hJ.d.mono (unhide HB2).size)
        have o3' := rowD_base oc (unhide HB2).size
        have k9 := (k4.put2 (.int .i64 TD) (.slice av q.length cv) hbX (show X.heap.size ≤ X.heap.size + 1 by omega))
        obtain ⟨r0, r1⟩ := k9.1.two
        have HB9 := hide k9.2
        have HO9 : Hid (((wr.setCell ⟨X.heap.size + 1, 0, none⟩ (.int .i64 TD)).setCell ⟨X.heap.size + 1, 1, none⟩ (.slice av q.length cv)).ownsRow X.heap.size 42 3 (.slice av q.length cv) q.length (mksV q)) := hide (rowD_on o3' fun G hG => by
          have hne : G ≠ X.heap.size + 1 := fun e => by
            obtain ⟨_, cur, hc⟩ := rowD_block o3' hG
            unfold Cls at k4
            rw [e, k4] at hc
            cases hc
          rw [Below.heap_setCell _ ⟨X.heap.size + 1, 1, none⟩ _ G hne, Below.heap_setCell _ ⟨X.heap.size + 1, 0, none⟩ _ G hne])
        have f0 := k4.frozen 0
        have f1 := k4.frozen 1
        obtain ⟨z0, z1⟩ := k4.two
        clear HI hJ hq kx hlt kc oc k4 hbX o3' k9
        go_wp2_with fail
        refine bodyPost_ret (v := .tuple #[.agg #[.int .i64 TD, .slice av q.length cv], .int .i64 0]) (by simp [results, Try.results19, go_sem, r0, r1]) rfl (.inr (.inr ⟨by first | trivial | rfl, by first | trivial | rfl, _, rfl, unhide HO9, unhide HB9⟩))
end Go.Proofs.Ytfllomlighlejaa
end

section
namespace Go.Proofs.Ytfllomlighlejaa
open Go.ChangeShapes Go.WideShapes Go.ChangeAt Go.RowKit
attribute [local go_sem] Oper.semAt_some

theorem pl_bounds {d : List Dop} {p g : Int} (hv : valB d = true) (hp : 0 ≤ p ∧ p ≤ frD d) (hg : g = 1 ∨ g = 2) : 0 ≤ plV d p g ∧ plV d p g ≤ toD d := by
  obtain ⟨hG, hL, hT⟩ := to_ch hv
  rw [(pl_zero hv hp hg).2]
  have z := mv_zero _ hG
  have m1 := mv_mono 1 _ (-1) 0 p 0 hG (by omega) hp.1
  have m2 := mv_mono 2 _ (-1) p (frD d) 0 hG (by omega) hp.2
  have e := mv_end _ (-1) (frD d : Int) 0 hG hL
  have lr := mv_lr (runL d).2 p 0
  rcases hg with rfl | rfl <;> omega
/-- each mark lies in the text and has a gravity -/
def InP (n : Int) (D : List Mk) : Prop := ∀ m ∈ D, (0 ≤ m.p ∧ m.p ≤ n) ∧ (m.g = 1 ∨ m.g = 2)
theorem InP.nil (n : Int) : InP n [] := fun _ h => by simp at h
theorem InP.all {n : Int} {D : List Mk} (h : InP n D) : D.filter (inM 0 n) = D := List.filter_eq_self.2 fun m hm => by
  unfold inM
  have := h m hm
  simp only [Bool.and_eq_true, decide_eq_true_eq]
  exact this.1
theorem refM_ok {n : Int} {L : List Mk} {x : Mk} (h : refM n L x = 0) : (0 ≤ x.p ∧ x.p ≤ n) ∧ (x.g = 1 ∨ x.g = 2) ∧ ((getM x.n L).isSome = true ∨ L.length < 1024) := by
  unfold refM at h
  split at h
  · cases h
  · split at h
    · cases h
    · split at h
      · cases h
      · rename_i h2 h3
        refine ⟨by omega, by omega, ?_⟩
        cases hg : (getM x.n L).isSome with
        | true => exact .inl rfl
        | false => exact .inr (Nat.lt_of_not_le fun hc => h3 ⟨hg, hc⟩)
theorem InP.put {n : Int} {D : List Mk} (h : InP n D) {x : Mk} (hx : (0 ≤ x.p ∧ x.p ≤ n) ∧ (x.g = 1 ∨ x.g = 2)) : InP n (insM x (delM x.n D)) := fun m hm => by
  rcases List.mem_cons.1 ((ins_perm _ _).mem_iff.1 hm) with rfl | hm
  · exact hx
  · exact h m ((del_sub _ _).mem hm)
theorem InP.del {n : Int} {D : List Mk} (h : InP n D) (s : ByteArray) : InP n (delM s D) := fun m hm => h m ((del_sub _ _).mem hm)
theorem InP.mov {D : List Mk} {d : List Dop} (h : InP (frD d) D) (hv : valB d = true) : InP (toD d) (movM (mvM d) D) := fun m hm => by
  have hp : (movM (mvM d) D).Perm (D.map (mvM d)) := by simpa [movM] using mov_perm (mvM d) D []
  obtain ⟨x, hx, rfl⟩ := List.mem_map.1 (hp.mem_iff.1 hm)
  obtain ⟨h1, h2⟩ := h x hx
  exact ⟨pl_bounds hv h1 h2, h2⟩
theorem put_len (x : Mk) {D : List Mk} (h : (getM x.n D).isSome = true ∨ D.length < 1024) (hD : D.length ≤ 1024) : (insM x (delM x.n D)).length ≤ 1024 := by
  rw [insM_len]
  cases hg : getM x.n D with
  | none =>
    rw [del_no hg]
    rcases h with h | h
    · rw [hg] at h; cases h
    · omega
  | some y =>
    have := (del_perm hg).length_eq
    rw [List.length_cons] at this
    omega
theorem mov_len (f : Mk → Mk) (D : List Mk) : (movM f D).length = D.length := by
  have hp : (movM f D).Perm (D.map f) := by simpa [movM] using mov_perm f D []
  rw [hp.length_eq, List.length_map]
theorem toD_q {d : List Dop} (hv : valB d = true) : 0 ≤ (toD d : Int) ∧ (toD d : Int) ≤ 268435456 := by
  have := (valB_nn hv).2
  omega
/-- both states: the program's marks and the document's -/
structure StM (X : World) (g : Nat) (n : Int) (L : List Mk) (a : Option Addr) (D : List Mk) : Prop where
  m : IsMs X g n L
  k : IsK X a D
  r : Rel L D
  p : InP n D
  l : D.length ≤ 1024
  q : 0 ≤ n ∧ n ≤ 268435456
  t : D = [] ∨ ∃ b off cur mk, a = some ⟨b, off, none⟩ ∧ X.heap[b]? = some (.cells cur 42 mk)
theorem own_typ {W : World} {N : Nat} {a : Option Addr} {c : Nat} {D : List Mk} (h : W.ownsRow N 42 3 (.slice a D.length c) D.length (mksV D)) : D = [] ∨ ∃ b off cur mk, a = some ⟨b, off, none⟩ ∧ W.heap[b]? = some (.cells cur 42 mk) := by
  rcases h.2 with ⟨e, h0⟩ | ⟨b, c', cur, e, _, hb, _⟩
  · exact .inl (List.length_eq_zero_iff.1 h0)
  · cases e
    exact .inr ⟨b, 0, cur, _, rfl, hb⟩
theorem StM.below {X Y : World} {g : Nat} {n : Int} {L : List Mk} {a : Option Addr} {D : List Mk} (h : StM X g n L a D) (hb : Below X.heap.size X Y) : StM Y g n L a D :=
  ⟨h.m.below hb (Nat.le_refl _), h.k.below hb (Nat.le_refl _), h.r, h.p, h.l, h.q, by
    rcases h.t with h1 | ⟨b, off, cur, mk, e, hc⟩
    · exact .inl h1
    · exact .inr ⟨b, off, cur, mk, e, (hb.block b (Array.getElem?_eq_some_iff.1 hc).1).trans hc⟩⟩
theorem refM_perm {n : Int} {L D : List Mk} (h : Rel L D) (x : Mk) : refM n L x = refM n D x := by
  unfold refM; rw [h.get, h.len]
/-- what a store into another kind of block leaves -/
theorem IsMs.put2 {W : World} {g : Nat} {n : Int} {L : List Mk} (h : IsMs W g n L) {B : Nat} {a b : Value} (hb : Cls W B 29 #[a, b]) (u v : Value) : IsMs ((W.setCell ⟨B, 0, none⟩ u).setCell ⟨B, 1, none⟩ v) g n L := by
  obtain ⟨r, h1, h2⟩ := h.c
  have hg : g ≠ B := fun e => by
    unfold Cls at h1 hb
    rw [e, hb] at h1; cases h1
  have hr : r ≠ B := fun e => by
    obtain ⟨es, clock, h3, _⟩ := h2
    unfold Cls at hb
    rw [e, hb] at h3; cases h3
  exact ⟨r, (h1.other ⟨B, 0, none⟩ _ hg).other ⟨B, 1, none⟩ _ hg, (h2.same (Below.heap_setCell _ ⟨B, 0, none⟩ _ r hr)).same (Below.heap_setCell _ ⟨B, 1, none⟩ _ r hr)⟩
theorem row_put2 {W : World} {N : Nat} {vv : Value} {D : List Mk} (h : W.ownsRow N 42 3 vv D.length (mksV D)) {B : Nat} {a b : Value} (hb : Cls W B 29 #[a, b]) (u v : Value) : ((W.setCell ⟨B, 0, none⟩ u).setCell ⟨B, 1, none⟩ v).ownsRow N 42 3 vv D.length (mksV D) := rowD_on h fun G hG => by
  have hne : G ≠ B := fun e => by
    obtain ⟨_, cur, hc⟩ := rowD_block h hG
    unfold Cls at hb
    rw [e, hb] at hc
    cases hc
  rw [Below.heap_setCell _ ⟨B, 1, none⟩ _ G hne, Below.heap_setCell _ ⟨B, 0, none⟩ _ G hne]
/-- a store into a block of the document's marks leaves both states -/
theorem StM.put2 {X : World} {g : Nat} {n : Int} {L : List Mk} {a : Option Addr} {D : List Mk} (h : StM X g n L a D) {B : Nat} {p q : Value} (hb : Cls X B 29 #[p, q]) (u v : Value) : StM ((X.setCell ⟨B, 0, none⟩ u).setCell ⟨B, 1, none⟩ v) g n L a D := by
  have hne : ∀ b cur mk, X.heap[b]? = some (.cells cur 42 mk) → b ≠ B := fun b cur mk hc e => by
    unfold Cls at hb
    rw [e, hb] at hc; cases hc
  have hblk : ∀ b, b ≠ B → ((X.setCell ⟨B, 0, none⟩ u).setCell ⟨B, 1, none⟩ v).heap[b]? = X.heap[b]? := fun b hb' => by
    rw [Below.heap_setCell _ ⟨B, 1, none⟩ _ b hb', Below.heap_setCell _ ⟨B, 0, none⟩ _ b hb']
  refine ⟨h.m.put2 hb u v, ?_, h.r, h.p, h.l, h.q, ?_⟩
  · rcases h.t with h1 | ⟨b, off, cur, mk, e, hc⟩
    · exact .inl h1
    · rcases h.k with h1 | ⟨b', off', e', hlt, hk⟩
      · exact .inl h1
      · rw [e] at e'
        cases e'
        refine .inr ⟨b, off, e, by rw [setCell_size, setCell_size]; exact hlt, fun k hk' => ?_⟩
        have hx := hblk b (hne b cur mk hc)
        have f : ∀ o : Nat, ((X.setCell ⟨B, 0, none⟩ u).setCell ⟨B, 1, none⟩ v).cell? ⟨b, o, none⟩ = X.cell? ⟨b, o, none⟩ := fun o => World.cell?_of_block (a := ⟨b, o, none⟩) hx
        obtain ⟨c0, c1, c2⟩ := hk k hk'
        exact ⟨(f _).trans c0, (f _).trans c1, (f _).trans c2⟩
  · rcases h.t with h1 | ⟨b, off, cur, mk, e, hc⟩
    · exact .inl h1
    · exact .inr ⟨b, off, cur, mk, e, (hblk b (hne b cur mk hc)).trans hc⟩
theorem Cls.apart2 {W : World} {B C : Nat} {t' : TypeId} {cs : Array Value} (h : Cls W C t' cs) (hne : C ≠ B) (u v : Value) : Cls ((W.setCell ⟨B, 0, none⟩ u).setCell ⟨B, 1, none⟩ v) C t' cs := (h.other ⟨B, 0, none⟩ u hne).other ⟨B, 1, none⟩ v hne
/-- the value of an act -/
def acV (k : Int) (x : Mk) (a : Option Addr) (l c : Nat) : Value := .agg #[.int .i64 k, .string x.n, .int .i64 x.p, .int .i64 x.g, .slice a l c]
end Go.Proofs.Ytfllomlighlejaa
end
