/- Layer 13: the law's fit. -/
import Derived.Test.YtkmbkoajbmlgaaaMg32

namespace Go.Proofs.Ytkmbkoajbmlgaaa
open Go.ChangeShapes Go.WideShapes Go.ChangeAt Go.RowKit
attribute [local go_sem] Oper.semAt_some

theorem runF_len (n : Nat) (d : List Dop) : ∀ k, k ≤ d.length → (runF n (d.take k)).2.length ≤ k
  | 0, _ => by simp [runF]
  | k + 1, h => by
    have ih := runF_len n d k (by omega)
    rw [runF_take n d (by omega)]
    unfold ftS
    split
    · simp; omega
    · split
      · split
        · simp; omega
        · omega
      · split
        · simp; omega
        · omega
theorem runF_n (n : Nat) (d : List Dop) : ∀ k, k ≤ d.length → (runF n (d.take k)).1 ≤ n
  | 0, _ => by simp [runF]
  | k + 1, h => by
    have ih := runF_n n d k (by omega)
    rw [runF_take n d (by omega)]
    unfold ftS
    split
    · exact ih
    · split
      · split
        · simp
        · exact ih
      · split
        · dsimp only; omega
        · exact ih
structure FtI (d : List Dop) (n k m : Nat) (L : List Dop) (v : Value) (w X : World) : Prop where
  e : runF n (d.take k) = (m, L)
  o : X.ownsRow w.heap.size 34 3 v L.length (opsV L)
  d : Below w.heap.size w X
/-- a list grows by what lies in a block of the call's own -/
theorem ft_push {w X : World} {v : Value} {L : List Dop} (ho : X.ownsRow w.heap.size 34 3 v L.length (opsV L)) (hd : Below w.heap.size w X) (hl : L.length ≤ 1000000) (k n : Int) (s : ByteArray) (y : Dop) (hy : opL y = [.int .i64 k, .int .i64 n, .string s]) :
    ∃ g c W', (Builtin.append_ #[24, 24] 24 #[v, .slice (some ⟨X.heap.size, 0, none⟩) 1 1]).run Try.prog (X.alloc (.cells #[.int .i64 k, .int .i64 n, .string s] 34)) = .ok (.slice (some ⟨g, 0, none⟩) (L.length + 1) c) W' ∧
      W'.ownsRow w.heap.size 34 3 (.slice (some ⟨g, 0, none⟩) (L.length + 1) c) (L ++ [y]).length (opsV (L ++ [y])) ∧ Below w.heap.size w W' := by
  obtain ⟨g, c, W', r, o, _, b⟩ := push_op X w.heap.size L.length v (opsV L) k n s 24 ho (by omega) hd.size
  rw [← hy, ← opsV_one, ← opsV_app] at o
  refine ⟨g, c, W', r, ?_, hd.trans b⟩
  rw [show (L ++ [y]).length = L.length + 1 by simp]
  exact o
set_option maxRecDepth 100000 in
set_option maxHeartbeats 4000000 in
theorem fit_at (a : Option Addr) (c : Nat) (d : List Dop) (n : Nat) (w : World) (h : IsO w a d) (hl : d.length ≤ 1000) (hn : n + smT d ≤ 268435456) (hk : ∀ o ∈ d, (o.k = 1 ∨ o.k = 2 ∨ o.k = 3) ∧ TbD o ∧ o.t.length ≤ 140737488355328) :
    Calls Try.prog 10 #[.slice a d.length c, .int .i64 (n : Int)] w fun y w' => ∃ a' c', y = .returned (.slice a' (fitD d n).length c') ∧ IsO w' a' (fitD d n) ∧ (fitD d n).length ≤ c' ∧ Below w.heap.size w w' := by
  have HO := hide fun (X : World) (hx : Below w.heap.size w X) => h.below hx (Nat.le_refl _)
  obtain ⟨q1, q2, q3, q4, q5⟩ := fitO_ok (n := n) hk hn
  have hlen : (fitO d n).length ≤ 1001 := by
    have := runF_len n d d.length (Nat.le_refl _)
    rw [List.take_length] at this
    unfold fitO; simp; omega
  have HC := hide fun (X : World) (a2 : Option Addr) (c2 : Nat) (h2 : IsO X a2 (fitO d n)) => RCanon_at a2 c2 (fitO d n) X h2 (by omega) (fun o ho => (q4 o ho).2)
  rw [q3] at HC
  dsimp only at HC
  have HFD : Hid (canA (dA (fitO d n)) = fitD d n) := hide rfl
  rw [unhide HFD] at HC
  have HFO : Hid (fitO d n = (runF n d).2 ++ [⟨1, ((runF n d).1 : Int), []⟩]) := hide rfl
  have hnn : n ≤ 268435456 := by omega
  have HKK := hide hk
  clear h hn hk q1 q2 q3 q4 q5 HFD
  generalize fitD d n = FD at *
  generalize fitO d n = FO at *
  go_enter Try.func10, Try.ntmps10
  go_wp2_with fail
  go_loopw [1, 5, 6, 7] (fun v1 v5 v6 v7 wx => (∃ z, v7 = z) ∧ (∃ (k m : Nat) (L : List Dop), v6 = .int .i64 (k : Int) ∧ v1 = .int .i64 (m : Int) ∧ k ≤ d.length ∧ Hid (FtI d n k m L v5 w wx))) (fun _ _ v6 _ _ => d.length - (intOf v6).toNat)
  case atStart => exact ⟨⟨_, rfl⟩, ⟨0, n, [], rfl, rfl, Nat.zero_le _, hide ⟨rfl, World.ownsRow_nil _ _ _ _, Below.refl _ _⟩⟩⟩
  case round =>
    obtain ⟨⟨z1, rfl⟩, ⟨k, m, L, rfl, rfl, hk, HI⟩⟩ := hrel
    by_cases hlt : k < d.length
    · have t1 : decide ((k : Int) < (d.length : Int)) = true := decide_eq_true (by omega)
      obtain ⟨g, off, rfl, hg, c0, c1, c2⟩ := (unhide HO wr (unhide HI).d).three hlt
      have hkx := (unhide HKK _ (getD_memD hlt)).1
      have hLl := runF_len n d k (by omega)
      have hmn := runF_n n d k (by omega)
      rw [(unhide HI).e] at hLl hmn
      dsimp only at hLl hmn
      have HST : Hid (runF n (d.take (k + 1)) = ftS (m, L) (d.getD k opZ)) := hide (by rw [runF_take n d hlt, (unhide HI).e])
      have HA : Hid (∀ q : Array Value, (wr.alloc (.cells q 34)).ownsRow w.heap.size 34 3 u5 L.length (opsV L) ∧ Below w.heap.size w (wr.alloc (.cells q 34))) := hide fun q => ⟨World.ownsRow.alloc (unhide HI).o _, (unhide HI).d.alloc (unhide HI).d.size _⟩
      have HZ := hide (unhide HI).d.size
      generalize d.getD k opZ = x at *
      obtain ⟨xk, xn, xt⟩ := x
      dsimp only at c0 c1 c2 hkx
      have kN := Cls.new wr 34 #[.int .i64 xk, .int .i64 xn, .string (strOfNums xt)]
      obtain ⟨hA1, hA2⟩ := unhide HA #[.int .i64 xk, .int .i64 xn, .string (strOfNums xt)]
      have HN0 : Hid (∀ (m' : Nat) (L' : List Dop) (v' : Value) (X : World), ftS (m, L) ⟨xk, xn, xt⟩ = (m', L') → X.ownsRow w.heap.size 34 3 v' L'.length (opsV L') → Below w.heap.size w X → FtI d n (k + 1) m' L' v' w X) := hide fun m' L' v' X e1 e2 e3 => ⟨(unhide HST).trans e1, e2, e3⟩
      have HRN : Hid (∀ (j : Nat) (u : Value), ((wr.alloc (.cells #[.int .i64 xk, .int .i64 xn, .string (strOfNums xt)] 34)).setCell ⟨wr.heap.size, j, none⟩ u).ownsRow w.heap.size 34 3 u5 L.length (opsV L) ∧ Below w.heap.size w ((wr.alloc (.cells #[.int .i64 xk, .int .i64 xn, .string (strOfNums xt)] 34)).setCell ⟨wr.heap.size, j, none⟩ u)) := hide fun j u => ⟨rowD_on hA1 fun G hG => by
          obtain ⟨_, cur, hc⟩ := rowD_block (unhide HI).o hG
          have := (Array.getElem?_eq_some_iff.1 hc).1
          exact Below.heap_setCell _ ⟨wr.heap.size, j, none⟩ u G (show G ≠ wr.heap.size by omega), hA2.setCell (p := ⟨wr.heap.size, j, none⟩) (unhide HZ) u⟩
      have d0 : (wr.alloc (.cells #[.int .i64 xk, .int .i64 xn, .string (strOfNums xt)] 34)).cell? ⟨wr.heap.size, 0, none⟩ = some (.int .i64 xk) := kN.cell 0
      have d1 : (wr.alloc (.cells #[.int .i64 xk, .int .i64 xn, .string (strOfNums xt)] 34)).cell? ⟨wr.heap.size, 1, none⟩ = some (.int .i64 xn) := kN.cell 1
      have d2 : (wr.alloc (.cells #[.int .i64 xk, .int .i64 xn, .string (strOfNums xt)] 34)).cell? ⟨wr.heap.size, 2, none⟩ = some (.string (strOfNums xt)) := kN.cell 2
      have f1 := kN.frozen 1
      have kS := kN.set 1 (.int .i64 (m : Int))
      have e0 : ((wr.alloc (.cells #[.int .i64 xk, .int .i64 xn, .string (strOfNums xt)] 34)).setCell ⟨wr.heap.size, 1, none⟩ (.int .i64 (m : Int))).cell? ⟨wr.heap.size, 0, none⟩ = some (.int .i64 xk) := kS.cell 0
      have e1 : ((wr.alloc (.cells #[.int .i64 xk, .int .i64 xn, .string (strOfNums xt)] 34)).setCell ⟨wr.heap.size, 1, none⟩ (.int .i64 (m : Int))).cell? ⟨wr.heap.size, 1, none⟩ = some (.int .i64 (m : Int)) := kS.cell 1
      have e2 : ((wr.alloc (.cells #[.int .i64 xk, .int .i64 xn, .string (strOfNums xt)] 34)).setCell ⟨wr.heap.size, 1, none⟩ (.int .i64 (m : Int))).cell? ⟨wr.heap.size, 2, none⟩ = some (.string (strOfNums xt)) := kS.cell 2
      obtain ⟨hB1, hB2⟩ := unhide HRN 1 (.int .i64 (m : Int))
      have HH1 := hide (And.intro hA1 hA2)
      have HH2 := hide (And.intro hB1 hB2)
      have HE := hide (And.intro e0 (And.intro e1 e2))
      have HD := hide (And.intro d0 (And.intro d1 d2))
      clear HI HST HA HRN hA1 hA2 hB1 hB2 e0 e1 e2 kN kS HKK hk hg
      go_upto_region 6 with fail
      clear c0 c1 c2 d0 d1 d2
      generalize wr.alloc (.cells #[.int .i64 xk, .int .i64 xn, .string (strOfNums xt)] 34) = v0 at *
      generalize wr.heap.size = gb at *
      by_cases h2 : xk = 2
      · subst h2
        obtain ⟨g2, c2, W2, r2, o2, b2⟩ := ft_push (unhide HH1).1 (unhide HH1).2 (by omega) 2 xn (strOfNums xt) ⟨2, xn, xt⟩ rfl
        have HN := hide (unhide HN0 m (L ++ [⟨2, xn, xt⟩]) _ W2 (by simp [ftS]) o2 b2)
        have R2 := hide r2
        obtain ⟨d0, d1, d2⟩ := unhide HD
        clear HN0 HH1 HH2 HE HD HZ r2 o2 b2 hkx f1
        generalize strOfNums xt = st at *
        generalize L ++ [(⟨2, xn, xt⟩ : Dop)] = L2 at *
        generalize L.length + 1 = l2 at *
        go_wp2_with (at_builtin; refine wpList_append_known rfl _ _ 24 24 rfl _ _ rfl rfl _ _ (unhide R2) ?_; clear R2)
        go_roundw
        case rel => exact ⟨⟨_, rfl⟩, ⟨k + 1, m, L2, by go_num, rfl, hlt, HN⟩⟩
        case measure => simp [intOf]; omega
      · have s2 : (xk == 2) = false := by simpa using h2
        by_cases h3 : (m : Int) < xn
        · have s3 : decide (xn > (m : Int)) = true := decide_eq_true h3
          have s3' : decide ((m : Int) < xn) = true := decide_eq_true h3
          by_cases h4 : 0 < m
          · have s4 : decide ((m : Int) > 0) = true := decide_eq_true (by omega)
            have s4' : decide ((0 : Int) < (m : Int)) = true := decide_eq_true (by omega)
            have s4'' : decide (0 < m) = true := decide_eq_true h4
            obtain ⟨g2, c2, W2, r2, o2, b2⟩ := ft_push (unhide HH2).1 (unhide HH2).2 (by omega) xk (m : Int) (strOfNums xt) ⟨xk, m, xt⟩ rfl
            have HN := hide (unhide HN0 0 (L ++ [⟨xk, m, xt⟩]) _ W2 (by simp [ftS, h2, h3, h4]) o2 b2)
            have R2 := hide r2
            have w1 : wrap64 ((m : Int) - (m : Int)) = ((0 : Nat) : Int) := by rw [Int.sub_self, wrapD _ (by omega) (by omega)]; rfl
            obtain ⟨d0, d1, d2⟩ := unhide HD
            clear HN0 HH1 HH2 HD HZ r2 o2 b2 hkx h2 h3 h4
            generalize strOfNums xt = st at *
            generalize L ++ [(⟨xk, (m : Int), xt⟩ : Dop)] = L2 at *
            generalize L.length + 1 = l2 at *
            go_upto_region 10 with fail
            clear d0 d1 d2
            obtain ⟨e0, e1, e2⟩ := unhide HE
            clear HE
            generalize v0.setCell ⟨gb, 1, none⟩ (.int .i64 (m : Int)) = v1 at *
            go_wp2_with (at_builtin; refine wpList_append_known rfl _ _ 24 24 rfl _ _ rfl rfl _ _ (unhide R2) ?_; clear R2)
            go_roundw
            case rel => exact ⟨⟨_, rfl⟩, ⟨k + 1, 0, L2, by go_num, by first | rfl | go_num | simp, hlt, HN⟩⟩
            case measure => simp [intOf]; omega
          · have s4 : decide ((m : Int) > 0) = false := decide_eq_false (by omega)
            have s4' : decide ((0 : Int) < (m : Int)) = false := decide_eq_false (by omega)
            have s4'' : decide (0 < m) = false := decide_eq_false h4
            have HN := hide (unhide HN0 m L _ _ (by simp [ftS, h2, h3, h4]) (unhide HH2).1 (unhide HH2).2)
            obtain ⟨d0, d1, d2⟩ := unhide HD
            clear HN0 HH1 HH2 HD HZ hkx h2 h3 h4
            generalize strOfNums xt = st at *
            go_upto_region 10 with fail
            clear d0 d1 d2
            obtain ⟨e0, e1, e2⟩ := unhide HE
            clear HE
            generalize v0.setCell ⟨gb, 1, none⟩ (.int .i64 (m : Int)) = v1 at *
            go_wp2_with fail
            go_roundw
            case rel => exact ⟨⟨_, rfl⟩, ⟨k + 1, m, L, by go_num, rfl, hlt, HN⟩⟩
            case measure => simp [intOf]; omega
        · have s3 : decide (xn > (m : Int)) = false := decide_eq_false h3
          have s3' : decide ((m : Int) < xn) = false := decide_eq_false h3
          by_cases h4 : 0 < xn
          · have s4 : decide (xn > 0) = true := decide_eq_true h4
            have s4' : decide ((0 : Int) < xn) = true := decide_eq_true h4
            obtain ⟨g2, c2, W2, r2, o2, b2⟩ := ft_push (unhide HH1).1 (unhide HH1).2 (by omega) xk xn (strOfNums xt) ⟨xk, xn, xt⟩ rfl
            have HN := hide (unhide HN0 (m - xn.toNat) (L ++ [⟨xk, xn, xt⟩]) _ W2 (by simp [ftS, h2, h3, h4]) o2 b2)
            have R2 := hide r2
            have w1 : wrap64 ((m : Int) - xn) = ((m - xn.toNat : Nat) : Int) := by rw [wrapD _ (by omega) (by omega)]; omega
            obtain ⟨d0, d1, d2⟩ := unhide HD
            clear HN0 HH1 HH2 HD HE HZ r2 o2 b2 hkx h2 h3 h4 f1
            generalize strOfNums xt = st at *
            generalize L ++ [(⟨xk, xn, xt⟩ : Dop)] = L2 at *
            generalize L.length + 1 = l2 at *
            generalize m - xn.toNat = m2 at *
            go_wp2_with (at_builtin; refine wpList_append_known rfl _ _ 24 24 rfl _ _ rfl rfl _ _ (unhide R2) ?_; clear R2)
            go_roundw
            case rel => exact ⟨⟨_, rfl⟩, ⟨k + 1, m2, L2, by go_num, by first | rfl | go_num, hlt, HN⟩⟩
            case measure => simp [intOf]; omega
          · have s4 : decide (xn > 0) = false := decide_eq_false h4
            have s4' : decide ((0 : Int) < xn) = false := decide_eq_false h4
            have HN := hide (unhide HN0 m L _ _ (by simp [ftS, h2, h3, h4]) (unhide HH1).1 (unhide HH1).2)
            obtain ⟨d0, d1, d2⟩ := unhide HD
            clear HN0 HH1 HH2 HD HE HZ hkx h2 h3 h4 f1
            generalize strOfNums xt = st at *
            go_wp2_with fail
            go_roundw
            case rel => exact ⟨⟨_, rfl⟩, ⟨k + 1, m, L, by go_num, rfl, hlt, HN⟩⟩
            case measure => simp [intOf]; omega
    · obtain rfl : k = d.length := by omega
      have t1 : decide (((d.length : Nat) : Int) < (d.length : Int)) = false := by simp
      have hE := (unhide HI).e
      rw [List.take_length] at hE
      have hLl := runF_len n d d.length (Nat.le_refl _)
      rw [List.take_length, hE] at hLl
      dsimp only at hLl
      obtain ⟨g2, c2, W2, r2, o2, b2⟩ := ft_push (unhide HI).o (unhide HI).d (by omega) 1 (m : Int) ⟨#[]⟩ ⟨1, m, []⟩ rfl
      have hFO : L ++ [(⟨1, (m : Int), []⟩ : Dop)] = FO := by rw [unhide HFO, hE]
      rw [hFO] at o2
      have hFl : FO.length = L.length + 1 := by rw [← hFO]; simp
      rw [← hFl] at r2 o2
      obtain ⟨a4, c4, he4, i4, _⟩ := own_isOC o2
      have HC2 := hide (unhide HC W2 (some ⟨g2, 0, none⟩) c2 (by cases he4; exact i4))
      have R2 := hide r2
      have HB := hide b2
      clear HI hE hLl r2 o2 b2 hFO hFl he4 i4 HC HFO HKK hk hlt HO
      generalize FO.length = fl at *
      go_wp2_with (at_builtin; refine wpList_append_known rfl _ _ 24 24 rfl _ _ rfl rfl _ _ (unhide R2) ?_; clear R2)
      refine (unhide HC2).mono ?_
      rintro y w3 ⟨a5, c5, rfl, i5, l5, x5⟩
      dsimp only
      have HI5 := hide i5
      have HX5 := hide ((unhide HB).trans (x5.mono (unhide HB).size))
      clear HC2 i5 x5 HB
      go_wp2_with fail
      refine bodyPost_ret (results_tmp rfl _ _ _) rfl ⟨a5, c5, rfl, unhide HI5, l5, unhide HX5⟩

end Go.Proofs.Ytkmbkoajbmlgaaa
