/- Layer 9's scripts: what a law's loop over the book's ropes keeps. · RopeFirst, plain: what lasting counts; First's answer of a lasting function is the shortest beginning. · RopeFirst: lasting, and the law's function. · RopeFirst's walk. · RopeFirst: for every input the law returns true and every argument reads afterwards as it read before; conditions: the table of classes holds at the call what the program's text lays (the card ties it to that text). -/
import Derived.Test.YtcodpkmhpplamaaGreatDoorRpD
import Derived.Test.YtcodpkmhpplamaaGreatDoorLayL
import Derived.Below
import Derived.ChangeOld
import Derived.ShutString

section
namespace Go.Proofs.YtcodpkmhpplamaaGreatDoor
open Go.ChangeShapes Go.WideShapes Go.ChangeAt Go.RowKit
attribute [local go_sem] Oper.semAt_some

theorem Bk.low {X : World} {B gB : Nat} {gs : List Nat} {os : List (Option Nd)} (h : Bk X B gB gs os) : Bk X 0 gB gs os := by
  obtain ⟨vr, vt, h1, h2, h3⟩ := h.c
  refine ⟨⟨vr, vt, h1, ⟨h2.1, ?_⟩, ⟨h3.1, ?_⟩⟩, h.n, h.r⟩
  · rcases h2.2 with h | ⟨g, cap, cur, e, _, h4⟩
    · exact Or.inl h
    · exact Or.inr ⟨g, cap, cur, e, Nat.zero_le _, h4⟩
  · rcases h3.2 with h | ⟨g, cap, cur, e, _, h4⟩
    · exact Or.inl h
    · exact Or.inr ⟨g, cap, cur, e, Nat.zero_le _, h4⟩
/-- what the law's loop keeps -/
structure SaI (w : World) (gT : Nat) (gs : List Nat) (os : List (Option Nd)) (X : World) : Prop where
  k : Bk X 0 gT gs os
  s : ∀ i, i < gs.length → (txtO (os.getD i none)).length ≤ 268435456
  b : Below w.heap.size w X

end Go.Proofs.YtcodpkmhpplamaaGreatDoor
end

section
namespace Go.Proofs.YtcodpkmhpplamaaGreatDoor
open Go.ChangeShapes Go.WideShapes Go.ChangeAt Go.RowKit
attribute [local go_sem] Oper.semAt_some

/-- what the law's function holds against k -/
def cntF (asked : Int) (l : List Int) : Int := if asked = 0 then (l.length : Int) else if asked = 1 then endsN l else (l.length : Int) + endsN l
def pF (k asked : Int) (l : List Int) : Bool := decide (k ≤ cntF asked l)
/-- the shortest beginning, or none -/
def LasA (p : List Int → Bool) (T : List Int) (n : Int) : Prop :=
  (∃ m : Nat, n = (m : Int) ∧ m ≤ T.length ∧ p (T.take m) = true ∧ ∀ j, j < m → p (T.take j) = false) ∨ (n = -1 ∧ ∀ j, j ≤ T.length → p (T.take j) = false)
theorem take_one (T : List Int) {n : Nat} (h : n < T.length) : T.take (n + 1) = T.take n ++ [T.getD n 0] := by
  rw [List.take_add_one, List.getElem?_eq_getElem h, List.getD_eq_getElem?_getD, List.getElem?_eq_getElem h]; rfl
theorem last_take (T : List Int) {n : Nat} (h0 : 0 < n) (h : n ≤ T.length) : (T.take n).getLast? = some (T.getD (n - 1) 0) := by
  obtain ⟨m, rfl⟩ : ∃ m, n = m + 1 := ⟨n - 1, by omega⟩
  rw [take_one T (by omega)]
  simp
theorem ends_one (T : List Int) {n : Nat} (h : n < T.length) : endsN (T.take (n + 1)) = endsN (T.take n) + (if (T.getD n 0 = 10 ∧ ¬ (T.take n).getLast? = some 13) ∨ T.getD n 0 = 13 then 1 else 0) := by
  rw [take_one T h, ends_snoc]
theorem ends_up (T : List Int) (i : Nat) : ∀ d, i + d ≤ T.length → endsN (T.take i) ≤ endsN (T.take (i + d))
  | 0, _ => Int.le_refl _
  | d + 1, h => by
    have h1 := ends_up T i d (by omega)
    have h2 := ends_one T (n := i + d) (by omega)
    rw [show i + (d + 1) = i + d + 1 from rfl, h2]
    split <;> omega
theorem ends_few (T : List Int) : ∀ n, n ≤ T.length → 0 ≤ endsN (T.take n) ∧ endsN (T.take n) ≤ (n : Int)
  | 0, _ => by simp [endsN, crlf]
  | n + 1, h => by
    have h1 := ends_few T n (by omega)
    rw [ends_one T (by omega)]
    split <;> omega
theorem cnt_up (a : Int) (T : List Int) {i j : Nat} (h : i ≤ j) (hj : j ≤ T.length) : cntF a (T.take i) ≤ cntF a (T.take j) := by
  have h1 := ends_up T i (j - i) (by omega)
  rw [show i + (j - i) = j by omega] at h1
  unfold cntF
  rw [List.length_take, List.length_take, Nat.min_eq_left (by omega), Nat.min_eq_left (by omega)]
  split
  · omega
  · split <;> omega
theorem pF_up {k a : Int} {T : List Int} {i j : Nat} (h : i ≤ j) (hj : j ≤ T.length) (hp : pF k a (T.take i) = true) : pF k a (T.take j) = true :=
  decide_eq_true (Int.le_trans (of_decide_eq_true hp) (cnt_up a T h hj))
theorem fir_las {k a : Int} {T : List Int} {n m : Int} (h1 : FirA (pF k a) T n) (h2 : LasA (pF k a) T m) : n = m := by
  rcases h1 with ⟨p0, rfl⟩ | ⟨p0, pT, rfl⟩ | ⟨p0, q, rfl, hq, hl, pa, pb⟩
  · rcases h2 with ⟨m, rfl, hm, pm, hf⟩ | ⟨rfl, hf⟩
    · by_cases e : m = 0
      · rw [e]; rfl
      · have := hf 0 (by omega)
        rw [List.take_zero, p0] at this
        cases this
    · have := hf 0 (Nat.zero_le _)
      rw [List.take_zero, p0] at this
      cases this
  · rcases h2 with ⟨m, rfl, hm, pm, hf⟩ | ⟨rfl, hf⟩
    · have := pF_up (k := k) (a := a) hm (Nat.le_refl _) pm
      rw [List.take_length, pT] at this
      cases this
    · rfl
  · rcases h2 with ⟨m, rfl, hm, pm, hf⟩ | ⟨rfl, hf⟩
    · by_cases c1 : q < m
      · have := hf q c1
        rw [pb] at this
        cases this
      · by_cases c2 : m < q
        · have := pF_up (k := k) (a := a) (T := T) (i := m) (j := q - 1) (by omega) (by omega) pm
          rw [pa] at this
          cases this
        · rw [show q = m by omega]
    · have := hf q hl
      rw [pb] at this
      cases this

end Go.Proofs.YtcodpkmhpplamaaGreatDoor
end

section
namespace Go.Proofs.YtcodpkmhpplamaaGreatDoor
open Go.ChangeShapes Go.WideShapes Go.ChangeAt Go.RowKit
attribute [local go_sem] Oper.semAt_some

theorem str_at9 (l : List Int) (hl : ∀ x ∈ l, 0 ≤ x ∧ x ≤ 255) {i : Nat} (hi : i < l.length) (h : i < (strOfNums l).size) : (((strOfNums l)[i]'h).toNat : Int) = l.getD i 0 := by
  have hb := hl _ (List.getElem_mem hi)
  have e : (strOfNums l)[i]'h = UInt8.ofNat (l[i]).toNat := by
    show ((strOfNums l).data[i]'h) = _
    simp [strOfNums]
  rw [e]
  simp [List.getD, List.getElem?_eq_getElem hi]
  omega
theorem size_strF (l : List Int) : (strOfNums l).size = l.length := by simp [strOfNums, ByteArray.size]
/-- is there a line end at the place ahead of n? -/
def endF (T : List Int) (n : Nat) : Bool := decide (0 < n ∧ ((T.getD (n - 1) 0 = 10 ∧ (n = 1 ∨ T.getD (n - 2) 0 ≠ 13)) ∨ T.getD (n - 1) 0 = 13))
theorem endF_is (T : List Int) {n : Nat} (h : n ≤ T.length) : endsN (T.take n) = endsN (T.take (n - 1)) + (if endF T n = true then 1 else 0) := by
  by_cases h0 : n = 0
  · subst h0; simp [endF]
  · have h1 := ends_one T (n := n - 1) (by omega)
    rw [show n - 1 + 1 = n by omega] at h1
    rw [h1]
    congr 1
    have hiff : ((T.getD (n - 1) 0 = 10 ∧ ¬ (T.take (n - 1)).getLast? = some 13) ∨ T.getD (n - 1) 0 = 13) ↔ endF T n = true := by
      unfold endF
      rw [decide_eq_true_iff]
      by_cases h2 : n = 1
      · subst h2; simp
      · rw [last_take T (n := n - 1) (by omega) (by omega), show n - 1 - 1 = n - 2 by omega]
        simp [h2]
        omega
    simp only [hiff]
theorem cnt_at (a : Int) (T : List Int) {n : Nat} (h : n ≤ T.length) : cntF a (T.take n) = if a = 0 then (n : Int) else if a = 1 then endsN (T.take n) else (n : Int) + endsN (T.take n) := by
  unfold cntF
  rw [List.length_take, Nat.min_eq_left h]

set_option maxRecDepth 100000 in
set_option maxHeartbeats 8000000 in
theorem lasting_at (T : List Int) (k a : Int) (w : World) (hT : ∀ x ∈ T, 0 ≤ x ∧ x ≤ 255) (hm : T.length ≤ 268435456) :
    Calls Tryz.prog 11 #[.string (strOfNums T), .int .i64 k, .int .i64 a] w fun y w' => ∃ n : Int, y = .returned (.int .i64 n) ∧ LasA (pF k a) T n ∧ w' = w := by
  have hsz := size_strF T
  have HT := hide hT
  have HM := hide hm
  clear hT hm
  have hE0 : endsN (T.take (0 - 1)) = 0 := by simp [endsN, crlf]
  have HE0 := hide hE0
  clear hE0
  go_enter Tryz.func11, Tryz.ntmps11
  go_wp2_with fail
  go_loopw [7, 8, 9] (fun v7 v8 v9 wx => wx = w ∧ (∃ z, v9 = z) ∧ ∃ n : Nat, v8 = .int .i64 (n : Int) ∧ n ≤ T.length + 1 ∧ (∃ E, E = endsN (T.take (n - 1)) ∧ v7 = .int .i64 E) ∧ Hid (∀ j, j < n → pF k a (T.take j) = false)) (fun _ v8 _ _ => T.length + 1 - (intOf v8).toNat)
  case atStart => exact ⟨rfl, ⟨_, rfl⟩, 0, rfl, Nat.zero_le _, ⟨0, (unhide HE0).symm, rfl⟩, hide (fun j h => absurd h (by omega))⟩
  case round =>
    obtain ⟨hwr, ⟨z9, rfl⟩, n, rfl, hn, ⟨E, hE, rfl⟩, HF⟩ := hrel
    subst hwr
    by_cases c : n ≤ T.length
    · have c1 : (n : Int) ≤ (T.length : Int) := by omega
      have hEd := endF_is T c
      have hct := cnt_at a T c
      have hfew := ends_few T n c
      rw [← hE] at hEd
      have HB : Hid ((endF T n) = decide (0 < n ∧ ((T.getD (n - 1) 0 = 10 ∧ (n = 1 ∨ T.getD (n - 2) 0 ≠ 13)) ∨ T.getD (n - 1) 0 = 13))) := hide rfl
      generalize endF T n = d at *
      have hm := unhide HM
      have HP : Hid (pF k a (T.take n) = decide (k ≤ cntF a (T.take n))) := hide rfl
      have HN1 : Hid (endsN (T.take (n + 1 - 1)) = endsN (T.take n)) := hide (by rw [Nat.add_sub_cancel])
      rw [hct] at HP
      clear hct
      generalize hE2 : endsN (T.take n) = E2 at *
      clear hE2 hE
      go_upto_region 5 with fail
      go_cut [42] (fun cv wx => cv = .bool d ∧ wx = wr)
      case first =>
        by_cases n0 : n = 0
        · subst n0
          have hd : d = false := by rw [unhide HB]; simp
          subst hd
          clear HP HN1 hEd hfew HB
          go_wp2_with fail
          go_meet
          exact ⟨rfl, rfl⟩
        · have t1 : (0 : Int) < (n : Int) := by omega
          have t2 : decide ((0 : Int) < (n : Int)) = true := decide_eq_true t1
          have t0 : 0 < n := by omega
          obtain ⟨m, hmn⟩ : ∃ m, m = n - 1 := ⟨_, rfl⟩
          have hl1 : (n : Int) - 1 = (m : Int) := by omega
          have hw1 : IntKind.i64.wrap (m : Int) = (m : Int) := by rw [IntKind.wrap_i64]; omega
          have hm1 : (m : Int) < (T.length : Int) := by omega
          have hx1 := str_at9 T (unhide HT) (i := m) (by omega)
          have hd0 := unhide HB
          rw [← hmn] at hd0
          clear hmn
          generalize T.getD m 0 = x1 at *
          by_cases k13 : x1 = 13
          · subst k13
            have hd : d = true := by rw [hd0]; exact decide_eq_true ⟨by omega, Or.inr rfl⟩
            clear hd0
            subst hd
            clear HP HN1 hEd hfew HB
            go_wp2_with fail
            go_meet
            exact ⟨rfl, rfl⟩
          · have k13b : (x1 == 13) = false := by rw [beq_eq_false_iff_ne]; exact k13
            by_cases k10 : x1 = 10
            · subst k10
              by_cases n1 : n = 1
              · have hd : d = true := by rw [hd0]; exact decide_eq_true ⟨by omega, Or.inl ⟨rfl, Or.inl n1⟩⟩
                clear hd0
                subst hd
                have e1b : ((n : Int) == 1) = true := by rw [beq_iff_eq]; omega
                clear n1
                clear HP HN1 hEd hfew HB
                go_wp2_with fail
                go_meet
                exact ⟨rfl, rfl⟩
              · have e1b : ((n : Int) == 1) = false := by rw [beq_eq_false_iff_ne]; omega
                obtain ⟨q, hqn⟩ : ∃ q, q = n - 2 := ⟨_, rfl⟩
                have hl2 : (n : Int) - 2 = (q : Int) := by omega
                have hw2 : IntKind.i64.wrap (q : Int) = (q : Int) := by rw [IntKind.wrap_i64]; omega
                have hm2 : (q : Int) < (T.length : Int) := by omega
                have hx2 := str_at9 T (unhide HT) (i := q) (by omega)
                rw [← hqn] at hd0
                clear hqn
                generalize T.getD q 0 = x2 at *
                by_cases j13 : x2 = 13
                · subst j13
                  have hd : d = false := by
                    rw [hd0]
                    exact decide_eq_false (by rintro ⟨_, ⟨_, h | h⟩ | h⟩ <;> omega)
                  clear hd0
                  subst hd
                  clear HP HN1 hEd hfew HB
                  go_wp2_with fail
                  go_meet
                  exact ⟨rfl, rfl⟩
                · have j13b : (x2 != 13) = true := by rw [bne_iff_ne]; exact j13
                  have hd : d = true := by rw [hd0]; exact decide_eq_true ⟨by omega, Or.inl ⟨rfl, Or.inr j13⟩⟩
                  clear hd0
                  subst hd
                  clear HP HN1 hEd hfew HB
                  go_wp2_with fail
                  go_meet
                  exact ⟨rfl, rfl⟩
            · have k10b : (x1 == 10) = false := by rw [beq_eq_false_iff_ne]; exact k10
              have hd : d = false := by
                rw [hd0]
                exact decide_eq_false (by rintro ⟨_, ⟨h, _⟩ | h⟩ <;> omega)
              clear hd0
              subst hd
              clear HP HN1 hEd hfew HB
              go_wp2_with fail
              go_meet
              exact ⟨rfl, rfl⟩
      case rest =>
        obtain ⟨rfl, hwz⟩ := hcut
        subst hwz
        clear HB HE0 hsz
        have hnw : IntKind.i64.wrap ((n : Int) + 1) = (n : Int) + 1 := by rw [IntKind.wrap_i64]; omega
        have hew : IntKind.i64.wrap (E + 1) = E + 1 := by rw [IntKind.wrap_i64]; have := hfew; split at hEd <;> omega
        have hE2 : (d = true ∧ E + 1 = E2) ∨ (d = false ∧ E = E2) := by
          cases d with
          | true => exact Or.inl ⟨rfl, by simpa using hEd.symm⟩
          | false => exact Or.inr ⟨rfl, by simpa using hEd.symm⟩
        have hxw : IntKind.i64.wrap ((n : Int) + E2) = (n : Int) + E2 := by rw [IntKind.wrap_i64]; omega
        obtain ⟨X, hX⟩ : ∃ X, X = (if a = 0 then (n : Int) else if a = 1 then E2 else (n : Int) + E2) := ⟨_, rfl⟩
        rw [← hX] at HP
        have HG : Hid (pF k a (T.take n) = false → ∀ j, j < n + 1 → pF k a (T.take j) = false) := hide fun h j hj => by
          by_cases e : j = n
          · rw [e]; exact h
          · exact unhide HF j (by omega)
        have hlen : n ≤ T.length := c
        clear hEd hfew hm
        rcases hE2 with ⟨rfl, hE2⟩ | ⟨rfl, hE2⟩ <;> subst hE2
        · by_cases a0 : a = 0
          · subst a0
            rw [hX, if_pos rfl] at HP
            clear hX
            by_cases hk : k ≤ (n : Int)
            · have hkd : decide (k ≤ (n : Int)) = true := decide_eq_true hk
              have HY : Hid (LasA (pF k _ ) T (n : Int)) := hide (Or.inl ⟨n, rfl, hlen, (unhide HP).trans hkd, unhide HF⟩)
              clear HP HG HF HN1
              go_wp2_with fail
              refine bodyPost_ret (results_tmp rfl _ _ _) rfl ⟨(n : Int), rfl, unhide HY, rfl⟩
            · have hkd : decide (k ≤ (n : Int)) = false := decide_eq_false hk
              have HQ := hide (unhide HG ((unhide HP).trans hkd))
              clear HP HG HF
              go_wp2_with fail
              go_roundw
              case rel => exact ⟨by trivial, ⟨_, rfl⟩, n + 1, by go_num, by omega, ⟨_, (unhide HN1).symm, rfl⟩, HQ⟩
              case measure =>
                show T.length + 1 - ((n : Int) + 1).toNat < T.length + 1 - (n : Int).toNat
                omega
          · have a0b : (a == 0) = false := by rw [beq_eq_false_iff_ne]; exact a0
            by_cases a1 : a = 1
            · subst a1
              rw [hX, if_neg a0, if_pos rfl] at HP
              clear hX
              by_cases hk : k ≤ (E + 1)
              · have hkd : decide (k ≤ (E + 1)) = true := decide_eq_true hk
                have HY : Hid (LasA (pF k _ ) T (n : Int)) := hide (Or.inl ⟨n, rfl, hlen, (unhide HP).trans hkd, unhide HF⟩)
                clear HP HG HF HN1
                go_wp2_with fail
                refine bodyPost_ret (results_tmp rfl _ _ _) rfl ⟨(n : Int), rfl, unhide HY, rfl⟩
              · have hkd : decide (k ≤ (E + 1)) = false := decide_eq_false hk
                have HQ := hide (unhide HG ((unhide HP).trans hkd))
                clear HP HG HF
                go_wp2_with fail
                go_roundw
                case rel => exact ⟨by trivial, ⟨_, rfl⟩, n + 1, by go_num, by omega, ⟨_, (unhide HN1).symm, rfl⟩, HQ⟩
                case measure =>
                  show T.length + 1 - ((n : Int) + 1).toNat < T.length + 1 - (n : Int).toNat
                  omega
            · have a1b : (a == 1) = false := by rw [beq_eq_false_iff_ne]; exact a1
              rw [hX, if_neg a0, if_neg a1] at HP
              clear hX
              by_cases hk : k ≤ (n : Int) + (E + 1)
              · have hkd : decide (k ≤ (n : Int) + (E + 1)) = true := decide_eq_true hk
                have HY : Hid (LasA (pF k _ ) T (n : Int)) := hide (Or.inl ⟨n, rfl, hlen, (unhide HP).trans hkd, unhide HF⟩)
                clear HP HG HF HN1
                go_wp2_with fail
                refine bodyPost_ret (results_tmp rfl _ _ _) rfl ⟨(n : Int), rfl, unhide HY, rfl⟩
              · have hkd : decide (k ≤ (n : Int) + (E + 1)) = false := decide_eq_false hk
                have HQ := hide (unhide HG ((unhide HP).trans hkd))
                clear HP HG HF
                go_wp2_with fail
                go_roundw
                case rel => exact ⟨by trivial, ⟨_, rfl⟩, n + 1, by go_num, by omega, ⟨_, (unhide HN1).symm, rfl⟩, HQ⟩
                case measure =>
                  show T.length + 1 - ((n : Int) + 1).toNat < T.length + 1 - (n : Int).toNat
                  omega
        · by_cases a0 : a = 0
          · subst a0
            rw [hX, if_pos rfl] at HP
            clear hX
            by_cases hk : k ≤ (n : Int)
            · have hkd : decide (k ≤ (n : Int)) = true := decide_eq_true hk
              have HY : Hid (LasA (pF k _ ) T (n : Int)) := hide (Or.inl ⟨n, rfl, hlen, (unhide HP).trans hkd, unhide HF⟩)
              clear HP HG HF HN1
              go_wp2_with fail
              refine bodyPost_ret (results_tmp rfl _ _ _) rfl ⟨(n : Int), rfl, unhide HY, rfl⟩
            · have hkd : decide (k ≤ (n : Int)) = false := decide_eq_false hk
              have HQ := hide (unhide HG ((unhide HP).trans hkd))
              clear HP HG HF
              go_wp2_with fail
              go_roundw
              case rel => exact ⟨by trivial, ⟨_, rfl⟩, n + 1, by go_num, by omega, ⟨_, (unhide HN1).symm, rfl⟩, HQ⟩
              case measure =>
                show T.length + 1 - ((n : Int) + 1).toNat < T.length + 1 - (n : Int).toNat
                omega
          · have a0b : (a == 0) = false := by rw [beq_eq_false_iff_ne]; exact a0
            by_cases a1 : a = 1
            · subst a1
              rw [hX, if_neg a0, if_pos rfl] at HP
              clear hX
              by_cases hk : k ≤ E
              · have hkd : decide (k ≤ E) = true := decide_eq_true hk
                have HY : Hid (LasA (pF k _ ) T (n : Int)) := hide (Or.inl ⟨n, rfl, hlen, (unhide HP).trans hkd, unhide HF⟩)
                clear HP HG HF HN1
                go_wp2_with fail
                refine bodyPost_ret (results_tmp rfl _ _ _) rfl ⟨(n : Int), rfl, unhide HY, rfl⟩
              · have hkd : decide (k ≤ E) = false := decide_eq_false hk
                have HQ := hide (unhide HG ((unhide HP).trans hkd))
                clear HP HG HF
                go_wp2_with fail
                go_roundw
                case rel => exact ⟨by trivial, ⟨_, rfl⟩, n + 1, by go_num, by omega, ⟨_, (unhide HN1).symm, rfl⟩, HQ⟩
                case measure =>
                  show T.length + 1 - ((n : Int) + 1).toNat < T.length + 1 - (n : Int).toNat
                  omega
            · have a1b : (a == 1) = false := by rw [beq_eq_false_iff_ne]; exact a1
              rw [hX, if_neg a0, if_neg a1] at HP
              clear hX
              by_cases hk : k ≤ (n : Int) + E
              · have hkd : decide (k ≤ (n : Int) + E) = true := decide_eq_true hk
                have HY : Hid (LasA (pF k _ ) T (n : Int)) := hide (Or.inl ⟨n, rfl, hlen, (unhide HP).trans hkd, unhide HF⟩)
                clear HP HG HF HN1
                go_wp2_with fail
                refine bodyPost_ret (results_tmp rfl _ _ _) rfl ⟨(n : Int), rfl, unhide HY, rfl⟩
              · have hkd : decide (k ≤ (n : Int) + E) = false := decide_eq_false hk
                have HQ := hide (unhide HG ((unhide HP).trans hkd))
                clear HP HG HF
                go_wp2_with fail
                go_roundw
                case rel => exact ⟨by trivial, ⟨_, rfl⟩, n + 1, by go_num, by omega, ⟨_, (unhide HN1).symm, rfl⟩, HQ⟩
                case measure =>
                  show T.length + 1 - ((n : Int) + 1).toNat < T.length + 1 - (n : Int).toNat
                  omega
    · have c1 : ¬ (n : Int) ≤ (T.length : Int) := by omega
      have HL : Hid (LasA (pF k a) T (-1)) := hide (Or.inr ⟨rfl, fun j hj => unhide HF j (by omega)⟩)
      go_wp2_with fail
      refine bodyPost_ret (results_tmp rfl _ _ _) rfl ⟨-1, rfl, unhide HL, rfl⟩

end Go.Proofs.YtcodpkmhpplamaaGreatDoor
end

section
namespace Go.Proofs.YtcodpkmhpplamaaGreatDoor
open Go.ChangeShapes Go.WideShapes Go.ChangeAt Go.RowKit
attribute [local go_sem] Oper.semAt_some

set_option maxRecDepth 100000 in
set_option maxHeartbeats 4000000 in
theorem rf1_at (q : List Int) (k a : Int) (gk ga : Nat) (w : World) (hk : w.cell? ⟨gk, 0, none⟩ = some (.int .i64 k)) (ha : w.cell? ⟨ga, 0, none⟩ = some (.int .i64 a)) (hq : q.length ≤ 268435456) (he : 0 ≤ endsN q ∧ endsN q ≤ (q.length : Int)) :
    Calls Tryz.prog 9 #[weV (ofL q), .pointer (some ⟨ga, 0, none⟩), .pointer (some ⟨gk, 0, none⟩)] w fun y w' => y = .returned (.bool (pF k a q)) ∧ Below w.heap.size w w' := by
  have hw : weV (ofL q) = .agg #[.int .i64 (q.length : Int), .int .i64 (rnN q : Int), .int .i64 (unN q), .int .i64 (endsN q), .string (strOfNums (q.take 3)), .string (strOfNums (tail3 q))] := rfl
  rw [hw]
  clear hw
  have HP : Hid (pF k a q = decide (k ≤ if a = 0 then (q.length : Int) else if a = 1 then endsN q else (q.length : Int) + endsN q)) := hide rfl
  generalize (rnN q : Int) = r at *
  generalize unN q = u at *
  generalize endsN q = e at *
  generalize strOfNums (q.take 3) = h at *
  generalize strOfNums (tail3 q) = t at *
  generalize pF k a q = pv at *
  have b0 := (Below.refl w.heap.size w).alloc (Nat.le_refl _) (.cells #[.int .i64 (q.length : Int), .int .i64 r, .int .i64 u, .int .i64 e, .string h, .string t] 37)
  have g0 := push_get w (.cells #[.int .i64 (q.length : Int), .int .i64 r, .int .i64 u, .int .i64 e, .string h, .string t] 37)
  have hk2 := (b0.cell (p := ⟨gk, 0, none⟩) (lt_cell hk)).trans hk
  have ha2 := (b0.cell (p := ⟨ga, 0, none⟩) (lt_cell ha)).trans ha
  obtain ⟨c0, _, _, c3, _⟩ := cells6 g0
  have HB := hide b0
  have hxw : IntKind.i64.wrap ((q.length : Int) + e) = (q.length : Int) + e := by rw [IntKind.wrap_i64]; omega
  clear b0 g0 hk ha he hq
  go_enter Tryz.func9, Tryz.ntmps9
  by_cases a0 : a = 0
  · subst a0
    rw [if_pos rfl] at HP
    go_wp2_with fail
    go_ret
    refine ⟨?_, unhide HB⟩
    rw [unhide HP]
    rfl
  · have a0b : (a == 0) = false := by rw [beq_eq_false_iff_ne]; exact a0
    rw [if_neg a0] at HP
    by_cases a1 : a = 1
    · subst a1
      rw [if_pos rfl] at HP
      go_wp2_with fail
      go_ret
      refine ⟨?_, unhide HB⟩
      rw [unhide HP]
      rfl
    · have a1b : (a == 1) = false := by rw [beq_eq_false_iff_ne]; exact a1
      rw [if_neg a1] at HP
      go_wp2_with fail
      go_ret
      refine ⟨?_, unhide HB⟩
      rw [unhide HP]
      rfl

set_option maxRecDepth 100000 in
set_option maxHeartbeats 8000000 in
theorem RopeFirst_any (a0 : Option Addr) (cap : Nat) (cs : List Ac) (k a : Int) (w : World) (hA : IsAc w a0 cs) (hn : cs.length ≤ 2199023255488) (_hk : (Lit.int .i64 k).wf = true) (_ha : (Lit.int .i64 a).wf = true) (hW : Wt w) :
    Calls Tryz.prog 4 #[.slice a0 cs.length cap, .int .i64 k, .int .i64 a] w fun e w' => e = .returned (.bool true) ∧ Below w.heap.size w w' := by
  clear _hk _ha
  have b1 := (Below.refl w.heap.size w).alloc (Nat.le_refl _) (.cells #[.int .i64 k] 3)
  have b2 := b1.alloc b1.size (.cells #[.int .i64 a] 3)
  have ck : Cb ((w.alloc (.cells #[.int .i64 k] 3)).alloc (.cells #[.int .i64 a] 3)) w.heap.size 3 (.int .i64 k) := (Cb.new w _ _).alloc _
  have ca : Cb ((w.alloc (.cells #[.int .i64 k] 3)).alloc (.cells #[.int .i64 a] 3)) (w.heap.size + 1) 3 (.int .i64 a) := by
    have := Cb.new (w.alloc (.cells #[.int .i64 k] 3)) 3 (.int .i64 a)
    rwa [World.size_alloc] at this
  have hA := hA.on b2
  have hW := hW.below b2
  have HB0 := hide b2
  clear b1 b2
  go_enter Tryz.func4, Tryz.ntmps4
  go_upto_region 1 with fail
  generalize (w.alloc (.cells #[.int .i64 k] 3)).alloc (.cells #[.int .i64 a] 3) = w0 at *
  have HW := hide fun (X : World) (hx : Below w0.heap.size w0 X) => hW.below hx
  have HA := hide fun (X : World) (hx : Below w0.heap.size w0 X) => hA.on hx
  have HWk := hide (wakes9_at w0 hW)
  have HK := hide fun (X : World) (hx : Below w0.heap.size w0 X) => And.intro (ck.on hx).cell (ca.on hx).cell
  clear hW hA ck ca
  generalize hgk : w.heap.size = gk at *
  have HGK := hide hgk
  clear hgk
  go_wp2_with fail
  refine (unhide HWk).mono ?_
  rintro y w1 ⟨rfl, x1⟩
  dsimp only
  have HPl := hide (play9_at a0 cap cs w1 (unhide HA w1 x1) (by omega) (unhide HW w1 x1))
  clear HWk
  go_wp2_with fail
  refine (unhide HPl).mono ?_
  rintro y w2 ⟨gB, gs, os, vr, vt, rfl, h2, c2, hs2, hgl, _, x2⟩
  dsimp only
  have h3 := h2.copy c2
  have hrf : (∃ a k c, vr = .slice a k c) ∧ ∃ a k c, vt = .slice a k c := by
    obtain ⟨vr', vt', d1, d2, d3⟩ := h2.c
    have e := c2.symm.trans d1
    cases e
    obtain ⟨a1, c1, e1⟩ := row_len9 d2
    obtain ⟨a3, c3, e3⟩ := row_len9 d3
    exact ⟨⟨a1, _, c1, e1⟩, ⟨a3, _, c3, e3⟩⟩
  obtain ⟨⟨ra, rl, rc, rfl⟩, ta, tl, tc, rfl⟩ := hrf
  have x3 := (Below.refl w2.heap.size w2).alloc (Nat.le_refl _) (.cells #[.slice ra rl rc, .slice ta tl tc] 27)
  have D2 := x1.trans (x2.mono x1.size)
  have D3 := D2.trans (x3.mono D2.size)
  clear HPl h2 c2 x1 x2 x3 D2
  go_upto_region 6 with fail
  generalize hw3 : w2.alloc (.cells #[.slice ra rl rc, .slice ta tl tc] 27) = w3 at *
  generalize w2.heap.size = gT at *
  clear hw3
  have i0 : SaI w0 gT gs os w3 := ⟨h3.low, hs2, D3⟩
  obtain ⟨vr', vt', d1, d2, d3⟩ := h3.c
  obtain ⟨ra', rc', rfl⟩ := row_len9 d2
  obtain ⟨p0, _, _⟩ := cells2 d1
  clear d1 d2 d3 h3 D3
  go_wp2_with fail
  clear p0
  go_loopw [9, 10, 11, 24] (fun v9 v10 v11 v24 wx => (∃ z, v9 = z) ∧ (∃ z, v10 = z) ∧ (∃ z, v11 = z) ∧ ∃ i : Nat, v24 = .int .i64 (i : Int) ∧ i ≤ gs.length ∧ Hid (SaI w0 gT gs os wx)) (fun _ _ _ v24 _ => gs.length - (intOf v24).toNat)
  case atStart => exact ⟨⟨_, rfl⟩, ⟨_, rfl⟩, ⟨_, rfl⟩, 0, rfl, Nat.zero_le _, hide i0⟩
  case round =>
    clear i0
    obtain ⟨⟨z9, rfl⟩, ⟨z10, rfl⟩, ⟨z11, rfl⟩, i, rfl, hi, HI⟩ := hrel
    by_cases c : i < gs.length
    · have t1 : (i : Int) < (gs.length : Int) := by omega
      have hI := unhide HI
      obtain ⟨gr, rc, gt, tc, p0, p1, pc⟩ := hI.k.rows (by omega)
      obtain ⟨ci, cti⟩ := pc i c
      have hri := hI.k.r i c
      have hsi := hI.s i c
      obtain ⟨kk, ka⟩ := unhide HK wr hI.b
      generalize gs.getD i 0 = gi at *
      generalize os.getD i none = oi at *
      have hini : ∀ x ∈ txtO oi, 0 ≤ x ∧ x ≤ 255 := by obtain ⟨v, _, hv⟩ := hri.1; exact txt_in hv
      have HLa := hide fun (Y : World) => lasting_at (txtO oi) k a Y hini hsi
      have HFi : Hid (∀ Y, Below wr.heap.size wr Y → Calls Tryz.prog 10 #[.pointer (some ⟨gi, 0, none⟩), .func (.func 9) #[] #[.pointer (some ⟨gk + 1, 0, none⟩), .pointer (some ⟨gk, 0, none⟩)]] Y fun y w' => ∃ n : Int, y = .returned (.int .i64 n) ∧ FirA (pF k a) (txtO oi) n ∧ Below Y.heap.size Y w') := hide fun Y hb =>
        First9_at (.pointer (some ⟨gi, 0, none⟩)) oi 9 #[.pointer (some ⟨gk + 1, 0, none⟩), .pointer (some ⟨gk, 0, none⟩)] (pF k a) Y (RoV.ro (hri.1.on hb)) hsi (unhide HW Y (hI.b.trans (hb.mono hI.b.size))) (enters_of Tryz.func9 (by kernel_rfl) rfl) fun j X hj hx => by
          have hbx := hb.trans (hx.mono hb.size)
          obtain ⟨qk, qa⟩ := unhide HK X (hI.b.trans (hbx.mono hI.b.size))
          have hl : ((txtO oi).take j).length = j := by rw [List.length_take]; omega
          have h := rf1_at ((txtO oi).take j) k a gk (gk + 1) X qk qa (by omega) (by rw [hl]; exact ends_few (txtO oi) j hj)
          have e : (#[weV (ofL ((txtO oi).take j))] ++ #[Value.pointer (some ⟨gk + 1, 0, none⟩), .pointer (some ⟨gk, 0, none⟩)] : Array Value) = #[weV (ofL ((txtO oi).take j)), .pointer (some ⟨gk + 1, 0, none⟩), .pointer (some ⟨gk, 0, none⟩)] := by simp
          rw [e]
          exact h
      have HT := hide (fun n m (h1 : FirA (pF k a) (txtO oi) n) (h2 : LasA (pF k a) (txtO oi) m) => fir_las h1 h2)
      generalize strOfNums (txtO oi) = Si at *
      have HSW := hide fun (Y : World) (hb : Below wr.heap.size wr Y) => (show (fun w' : World => w'.cell? ⟨gT, 0, none⟩ = some (.slice (some ⟨gr, 0, none⟩) gs.length rc) ∧ w'.cell? ⟨gr, i, none⟩ = some (.pointer (some ⟨gi, 0, none⟩)) ∧ w'.cell? ⟨gk, 0, none⟩ = some (.int .i64 k) ∧ w'.cell? ⟨gk + 1, 0, none⟩ = some (.int .i64 a)) Y from ⟨(hb.cell (p := ⟨gT, 0, none⟩) (lt_cell p0)).trans p0, (hb.cell (p := ⟨gr, i, none⟩) (lt_cell ci)).trans ci, (hb.cell (p := ⟨gk, 0, none⟩) (lt_cell kk)).trans kk, (hb.cell (p := ⟨gk + 1, 0, none⟩) (lt_cell ka)).trans ka⟩)
      have HIL : Hid (∀ Y, Below wr.heap.size wr Y → SaI w0 gT gs os Y) := hide fun Y hb => ⟨hI.k.on hb, hI.s, hI.b.trans (hb.mono hI.b.size)⟩
      have D0 : Below wr.heap.size wr wr.drew := (Below.refl _ wr).drew
      have hiw : IntKind.i64.wrap ((i : Int) + 1) = (i : Int) + 1 := by rw [IntKind.wrap_i64]; omega
      clear pc hri hI HI hini hsi ci kk ka
      generalize hnn : gs.length = n at *
      go_upto_region 11 with fail
      refine regionL (S := fun w' => w'.cell? ⟨gT, 0, none⟩ = some (.slice (some ⟨gr, 0, none⟩) n rc) ∧ w'.cell? ⟨gr, i, none⟩ = some (.pointer (some ⟨gi, 0, none⟩)) ∧ w'.cell? ⟨gk, 0, none⟩ = some (.int .i64 k) ∧ w'.cell? ⟨gk + 1, 0, none⟩ = some (.int .i64 a)) (fun _ => false) (by kernel_rfl) ?_
      generalize wr.drew = y0 at *
      refine anyL_take (i := 0) (v := ?vfa0) rfl (by kernel_rfl) (by kernel_rfl) (by kernel_rfl) (by kernel_rfl) (fun _ _ _ h => h) (Or.inl ⟨by rfl, ?hfa0⟩) (unhide HSW _ D0) ?_
      case hfa0 => (intro w hSw; (try dsimp only at hSw); go_simp) <;> with_reducible rfl
      simp only [Act.put, List.getElem_toArray, List.getElem_cons_zero, List.setIfInBounds_toArray, List.set_cons_zero, List.set_cons_succ]
      refine anyL_take (i := 1) (v := ?vfa1) rfl (by kernel_rfl) (by kernel_rfl) (by kernel_rfl) (by kernel_rfl) (fun _ _ _ h => h) (Or.inl ⟨by rfl, ?hfa1⟩) (unhide HSW _ D0) ?_
      case hfa1 => (intro w hSw; (try dsimp only at hSw); go_simp) <;> with_reducible rfl
      simp only [Act.put, List.getElem_toArray, List.getElem_cons_zero, List.getElem_cons_succ, List.setIfInBounds_toArray, List.set_cons_zero, List.set_cons_succ]
      refine anyL_take (i := 2) (v := ?vfa2) rfl (by kernel_rfl) (by kernel_rfl) (by kernel_rfl) (by kernel_rfl) (fun _ _ _ h => h) (Or.inl ⟨by rfl, ?hfa2⟩) (unhide HSW _ D0) ?_
      case hfa2 => (intro w hSw; (try dsimp only at hSw); go_simp) <;> with_reducible rfl
      simp only [Act.put, List.getElem_toArray, List.getElem_cons_zero, List.getElem_cons_succ, List.setIfInBounds_toArray, List.set_cons_zero, List.set_cons_succ]
      refine anyL_take (i := 3) (v := ?vfa3) rfl (by kernel_rfl) (by kernel_rfl) (by kernel_rfl) (by kernel_rfl) (fun _ _ _ h => h) (Or.inl ⟨by rfl, ?hfa3⟩) (unhide HSW _ D0) ?_
      case hfa3 => (intro w hSw; (try dsimp only at hSw); go_simp) <;> with_reducible rfl
      simp only [Act.put, List.getElem_toArray, List.getElem_cons_zero, List.getElem_cons_succ, List.setIfInBounds_toArray, List.set_cons_zero, List.set_cons_succ]
      refine anyL_take (i := 4) (v := ?vfa4) rfl (by kernel_rfl) (by kernel_rfl) (by kernel_rfl) (by kernel_rfl) (fun _ _ _ h => h) (Or.inl ⟨by rfl, ?hfa4⟩) (unhide HSW _ D0) ?_
      case hfa4 => (intro w hSw; (try dsimp only at hSw); go_simp) <;> with_reducible rfl
      simp only [Act.put, List.getElem_toArray, List.getElem_cons_zero, List.getElem_cons_succ, List.setIfInBounds_toArray, List.set_cons_zero, List.set_cons_succ]
      refine anyL_take (i := 5) (v := ?vfa5) rfl (by kernel_rfl) (by kernel_rfl) (by kernel_rfl) (by kernel_rfl) (fun _ _ _ h => h) (Or.inl ⟨by rfl, ?hfa5⟩) (unhide HSW _ D0) ?_
      case hfa5 => (intro w hSw; (try dsimp only at hSw); go_simp) <;> with_reducible rfl
      simp only [Act.put, List.getElem_toArray, List.getElem_cons_zero, List.getElem_cons_succ, List.setIfInBounds_toArray, List.set_cons_zero, List.set_cons_succ]
      refine anyL_take (i := 7) (v := ?vfa6) rfl (by kernel_rfl) (by kernel_rfl) (by kernel_rfl) (by kernel_rfl) (fun _ _ _ h => h) (Or.inl ⟨by rfl, ?hfa6⟩) (unhide HSW _ D0) ?_
      case hfa6 => (intro w hSw; (try dsimp only at hSw); go_simp) <;> with_reducible rfl
      simp only [Act.put, List.getElem_toArray, List.getElem_cons_zero, List.getElem_cons_succ, List.setIfInBounds_toArray, List.set_cons_zero, List.set_cons_succ]
      refine anyL_take (i := 8) (v := ?vfa7) rfl (by kernel_rfl) (by kernel_rfl) (by kernel_rfl) (by kernel_rfl) (fun _ _ _ h => h) (Or.inl ⟨by rfl, ?hfa7⟩) (unhide HSW _ D0) ?_
      case hfa7 => (intro w hSw; (try dsimp only at hSw); go_simp) <;> with_reducible rfl
      simp only [Act.put, List.getElem_toArray, List.getElem_cons_zero, List.getElem_cons_succ, List.setIfInBounds_toArray, List.set_cons_zero, List.set_cons_succ]
      refine anyL_take (i := 9) (v := ?vfa8) rfl (by kernel_rfl) (by kernel_rfl) (by kernel_rfl) (by kernel_rfl) (fun _ _ _ h => h) (Or.inl ⟨by rfl, ?hfa8⟩) (unhide HSW _ D0) ?_
      case hfa8 => (intro w hSw; (try dsimp only at hSw); go_simp) <;> with_reducible rfl
      simp only [Act.put, List.getElem_toArray, List.getElem_cons_zero, List.getElem_cons_succ, List.setIfInBounds_toArray, List.set_cons_zero, List.set_cons_succ]
      refine anyL_ready (rs := [6]) (by kernel_rfl) (by simp) ?_
      refine AllL.cons rfl (fun K hK => ?_) AllL.nil
      go_simp
      refine (unhide HFi _ D0).mono ?_
      rintro e y1 ⟨n1, rfl, hf1, x1⟩
      have hf1 := hide hf1
      have D1 := D0.trans (x1.mono D0.size)
      refine unhide hK _ _ (fun _ => unhide HSW _ D1) ?_
      clear hK K x1
      refine anyL_ready (rs := [10]) (by kernel_rfl) (by simp) ?_
      refine AllL.cons rfl (fun K hK => ?_) AllL.nil
      go_simp
      refine (unhide HLa _).mono ?_
      rintro e y2 ⟨n2, rfl, hl2, rfl⟩
      have hl2 := hide hl2
      refine unhide hK _ _ (fun _ => unhide HSW _ D1) ?_
      clear hK K
      refine anyL_take (i := 11) (v := ?vfa9) rfl (by kernel_rfl) (by kernel_rfl) (by kernel_rfl) (by kernel_rfl) (fun _ _ _ h => h) (Or.inl ⟨by rfl, ?hfa9⟩) (unhide HSW _ D1) ?_
      case hfa9 => (intro w hSw; (try dsimp only at hSw); go_simp) <;> with_reducible rfl
      simp only [Act.put, List.getElem_toArray, List.getElem_cons_zero, List.getElem_cons_succ, List.setIfInBounds_toArray, List.set_cons_zero, List.set_cons_succ]
      refine anyL_done (by kernel_rfl) ?_ _
      obtain rfl := unhide HT _ _ (unhide hf1) (unhide hl2)
      have HI2 := hide (unhide HIL _ D1)
      clear HSW HIL HFi HLa HT D0 D1 p0 p1 cti
      subst hnn
      go_wp2_with fail
      go_roundw
      case rel => exact ⟨⟨_, rfl⟩, ⟨_, rfl⟩, ⟨_, rfl⟩, i + 1, by go_num, by omega, HI2⟩
      case measure =>
        show gs.length - ((i : Int) + 1).toNat < gs.length - (i : Int).toNat
        omega
    · have t1 : ¬ (i : Int) < (gs.length : Int) := by omega
      have HB := hide (unhide HI).b
      go_wp2_with fail
      refine bodyPost_ret (results_tmp rfl _ _ _) rfl ⟨rfl, by rw [unhide HGK]; exact (unhide HB0).trans ((unhide HB).mono (by rw [← unhide HGK]; exact (unhide HB0).size))⟩

end Go.Proofs.YtcodpkmhpplamaaGreatDoor
end

section
namespace Go.Proofs.YtcodpkmhpplamaaGreatDoor
open Go.ChangeShapes Go.WideShapes Go.ChangeAt Go.RowKit
open Go.ChangeMaps (open_string shut_string)

set_option maxRecDepth 100000 in
theorem ropeFirst_contract (H : Type) (enc : TypeId × Value → H) (W : World) (base : Nat) (args : Array Value) (ds gs : List (DataW H)) (before : List MemPlace)
    (hval : ∀ (j : Nat) t v, Tryz.f4.params[j]? = some t → args[j]? = some v → Value.okWide Tryz.prog W .any base t v)
    (hW : DataW.Whole enc Tryz.prog Tryz.f4.params.toList Rows.ropeFirstSpec.vars false W args.toList ds gs before) (hsz : (DataW.weightsEach Tryz.prog (Tryz.f4.params.toList ++ (OpenSpec.ofChange Rows.ropeFirstSpec).bare.plain.varTypes Tryz.prog) (ds ++ gs)).all (· ≤ reachBytes) = true) (hL : laidMetH Tryz.prog Rows.ropeFirstRow.laid W) (hsh : W.ShapedOpen Tryz.prog) :
    Calls Tryz.prog 4 args W fun e W' => ∃ v, e = .returned v ∧ Rows.ropeFirstSpec.post enc Tryz.prog Tryz.f4 false true false false W args v W' := by
  have hW' := hW
  obtain ⟨p, q, hA0, hV, rfl, _, _⟩ := hW
  have hA : DataW.TrodAll enc Tryz.prog W 0 (fun _ => true) true Tryz.f4.params.toList args.toList ds p := hA0
  rw [Tryz.params4] at hA hval hsz
  obtain ⟨v0, vs0, d0, ds0, p0, q0, hargs, rfl, rfl, h0, r0⟩ := trodAll_cons hA
  obtain ⟨v1, vs1, d1, ds1, p1, q1, rfl, rfl, rfl, h1, r1⟩ := trodAll_cons r0
  obtain ⟨v2, vs2, d2, ds2, p2, q2, rfl, rfl, rfl, h2, r2⟩ := trodAll_cons r1
  obtain ⟨rfl, rfl, rfl⟩ := trodAll_nil r2
  obtain rfl : args = #[v0, v1, v2] := by cases args; simp_all
  obtain ⟨rfl, rfl⟩ := trodVars_none hV
  obtain ⟨a0, len0, cap0, rfl⟩ := okWide_slice Tryz.underlying22 (hval 0 22 v0 rfl rfl)
  have k0 := h0
  have lt0 : ∀ x ∈ p0, x.block < W.heap.size := by obtain ⟨m, hm⟩ := k0; exact DataW.trod_lt m _ _ _ hm
  obtain ⟨l0, rfl, w0, u0⟩ := acts1_of_trod h0 hsz (j := 0) rfl rfl
  obtain ⟨x1, rfl, rfl, rfl, w1⟩ := open_int Tryz.underlying3 (hval 1 3 v1 rfl rfl) h1
  obtain ⟨x2, rfl, rfl, rfl, w2⟩ := open_int Tryz.underlying3 (hval 2 3 v2 rfl rfl) h2
  clear hA0
  refine (RopeFirst_any a0 cap0 l0 x1 x2 W w0 u0 w1 w2 (wt_of hL hsh)).mono fun e W' ⟨he, bel⟩ => ?_
  subst he
  exact ⟨_, rfl, _, _, _, [], _, [], hW', trodAll_mk1 (shut_bool Tryz.underlying4 _), (trodAll_cons_mk (Below.trod laidOut (by kernel_rfl) (of_decide_eq_true (by kernel_rfl)) k0 bel lt0) (trodAll_cons_mk (shut_int Tryz.underlying3 w1) (trodAll_cons_mk (shut_int Tryz.underlying3 w2) trodAll_mk0))), rfl, bel.frame _, fun h => by cases h⟩

theorem ropeFirst_met (os : Os) : laidMet Tryz.prog Rows.ropeFirstRow.laid ((laidWorldW os).forCall (fun _ _ => 0) ⟨#[], #[.slice none 0 0, .int .i64 0, .int .i64 0], []⟩).memory :=
  laidMet_of_run' 8 (by kernel_rfl) (by kernel_rfl)
theorem ropeFirst_reads (os : Os) {H : Type} (enc : TypeId × Value → H) : ∃ places, DataW.whole enc Tryz.prog ((laidWorldW os).forCall (fun _ _ => 0) ⟨#[], #[.slice none 0 0, .int .i64 0, .int .i64 0], []⟩).memory Tryz.f4.params.toList Rows.ropeFirstSpec.vars false (#[.slice none 0 0, .int .i64 0, .int .i64 0] : Array Value).toList 8 = some ([.nil, .lit (.int .i64 0), .lit (.int .i64 0)], [], places) :=
  ⟨[], by kernel_rfl⟩

set_option maxRecDepth 100000 in
theorem ropeFirst_lifted (os : Os) (started : os.Started) (H : Type) (enc : TypeId × Value → H) (F : Stop.Interp) :
    ReturnsInHanded {} Tryz.checked os 4 .any ((OpenSpec.ofChange Rows.ropeFirstSpec).preRow enc Tryz.prog Tryz.f4 Rows.ropeFirstRow.domain false Rows.ropeFirstRow.laid) (((OpenSpec.ofChange Rows.ropeFirstSpec).at F).post enc Tryz.prog Tryz.f4 false true false false) := by
  obtain ⟨places, hx⟩ := ropeFirst_reads os enc
  refine returnsInHanded_of_row (C := Tryz.checked) (s := OpenSpec.ofChange Rows.ropeFirstSpec) own started (by kernel_rfl) Tryz.func4
    (witness_row_at (enc := enc) (C := Tryz.checked) false (laidWorldW os) #[.slice none 0 0, .int .i64 0, .int .i64 0] rfl (by kernel_rfl) (by kernel_rfl) (by kernel_rfl)
      (OpenSpec.preRow_of_cond 8 hx (by kernel_rfl) (fun k hk => by cases hk) (by kernel_rfl) (ropeFirst_met os))) ?_
  intro W base args ds gs before hval hW _ _ hsz hL hsh _
  exact ropeFirst_contract H enc W base args ds gs before hval hW hsz hL hsh

theorem ropeFirst_said : Rows.RopeFirstSaid :=
  OpenClaim.holds_of_cond 4 Tryz.f4 rfl rfl rfl rfl rfl rfl rfl ⟨rfl, rfl, rfl, rfl, rfl⟩ rfl rfl rfl rfl rfl (by kernel_rfl) Tryz.func4 (by kernel_rfl)
    (of_decide_eq_true (by kernel_rfl)) (by unfold Func.isWrapper; first | (rw [if_pos (by decide +kernel)]; kernel_rfl) | (rw [if_neg (by decide +kernel)]; exact ⟨rfl, rfl⟩))
    (fun os started H enc _ F => by rw [OpenClaim.pre_eq_preRow]; exact ropeFirst_lifted os started H enc F)

theorem ropeFirst_plain (f : FuncId) (fn : Func) (hf : Tryz.pinned.checked.prog.funcNamed "galley/galleylaw09.RopeFirst" = some f) (hfn : Tryz.pinned.checked.prog.funcs[f]? = some fn) :
    true = Tryz.pinned.checked.prog.looks [] ∧ ∀ (j : Nat) t, fn.params[j]? = some t → Tryz.pinned.checked.prog.wantsStandIn t = false := by
  obtain rfl : f = 4 := Option.some.inj ((show Tryz.prog.funcNamed "galley/galleylaw09.RopeFirst" = some 4 by kernel_rfl).symm.trans hf) |>.symm
  obtain rfl : fn = Tryz.f4 := (Option.some.inj (Tryz.func4.symm.trans hfn)).symm
  refine ⟨by kernel_rfl, fun j t ht => ?_⟩
  rw [Tryz.params4] at ht
  have hm := Array.mem_of_getElem? ht
  simp only [List.mem_toArray, List.mem_cons, List.not_mem_nil, or_false] at hm
  rcases hm with rfl | rfl | rfl
  · exact (show Tryz.prog.wantsStandIn 22 = false by kernel_rfl)
  · exact (show Tryz.prog.wantsStandIn 3 = false by kernel_rfl)
  · exact (show Tryz.prog.wantsStandIn 3 = false by kernel_rfl)

/-- the card -/
theorem ropeFirst_card : Rows.RopeFirstCardSaid :=
  Claim7.holds_tied_plain_at .later [] _ _ _ _ ropeFirst_said (fun _ h => by cases h) (by kernel_rfl) (fun _ h => by cases h) ropeFirst_row_tie rfl ⟨rfl, rfl⟩ (by kernel_rfl) rfl ropeFirst_plain (by kernel_rfl)

#print axioms ropeFirst_card
end Go.Proofs.YtcodpkmhpplamaaGreatDoor
end
