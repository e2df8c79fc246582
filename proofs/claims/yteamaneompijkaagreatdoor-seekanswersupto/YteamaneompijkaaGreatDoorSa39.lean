/- Layer 10: contracts of seek's Where and find; what is answered of nil. · Layer 10: contracts of seek's To; what is answered of nil. · What the list of package-level variables gives: the table of classes holds its numbers; and a world for the witness. · The second form's bound: a []byte that came in has at most 1048576 places. · Lists of lists of bytes that came in under the second form's bound. · Lists of lists of bytes that came in under the second form's bound: nil ones have no room. -/
import Derived.Test.YteamaneompijkaaGreatDoorSa38
import Derived.Test.YteamaneompijkaaGreatDoorCards
import Derived.Test.YteamaneompijkaaGreatDoorTie
import Derived.Test.YteamaneompijkaaGreatDoorSa00
import Derived.SizedLaws
import Derived.Deep.DeepHandedRow
import Derived.Lib.LaidTab
import Derived.Test.YteamaneompijkaaGreatDoorSa01
import Derived.Deep.Matrix
import Derived.Test.YteamaneompijkaaGreatDoorSa23
namespace Go.Proofs.YteamaneompijkaaGreatDoor
open Go.ChangeShapes Go.WideShapes Go.ChangeAt Go.RowKit
set_option maxRecDepth 100000
set_option maxHeartbeats 8000000
section
attribute [local go_sem] Oper.semAt_some
theorem Where10_err (rp : Value) (p c : Int) (w : World) (hc : c = 1 ∨ c = 2) (HF : Hid (∀ X, Below w.heap.size w X → Calls Tryz.prog 30 #[rp, .int .i64 p] X fun y w' => y = .returned (.tuple #[.int .i64 0, .int .i64 c]) ∧ Below X.heap.size X w')) :
    Calls Tryz.prog 21 #[rp, .int .i64 p] w fun y w' => y = .returned (.tuple #[.agg wh0, .int .i64 c]) ∧ Below w.heap.size w w' := by
  have kS : Cls (w.alloc (.cells #[.int .i64 0, .int .i64 0, .int .i64 0, .int .i64 0, .int .i64 0, .int .i64 0, .int .i64 0] 61)) w.heap.size 61 wh0 := Cls.new w 61 _
  have b0 := (Below.refl w.heap.size w).alloc (Nat.le_refl _) (.cells #[.int .i64 0, .int .i64 0, .int .i64 0, .int .i64 0, .int .i64 0, .int .i64 0, .int .i64 0] 61)
  have hne : (c != 0) = true := by rcases hc with rfl | rfl <;> rfl
  have hne2 : (c == 0) = false := by rcases hc with rfl | rfl <;> rfl
  clear hc
  go_enter Tryz.func21, Tryz.ntmps21
  go_upto_region 1 with fail
  generalize w.alloc (.cells #[.int .i64 0, .int .i64 0, .int .i64 0, .int .i64 0, .int .i64 0, .int .i64 0, .int .i64 0] 61) = w0 at *
  go_wp2_with fail
  refine (unhide HF w0 b0).mono ?_
  rintro y w1 ⟨rfl, x1⟩
  dsimp only
  have X1 := b0.trans (x1.mono b0.size)
  have k1 := kS.below x1 kS.lt
  have cz := cells7 k1
  have z0 := cz 0 (by omega)
  have z1 := cz 1 (by omega)
  have z2 := cz 2 (by omega)
  have z3 := cz 3 (by omega)
  have z4' := cz 4 (by omega)
  have z5 := cz 5 (by omega)
  have z6 := cz 6 (by omega)
  have f0 := k1.frozen 0
  have f1 := k1.frozen 1
  have f2 := k1.frozen 2
  have f3 := k1.frozen 3
  have f4 := k1.frozen 4
  have f5 := k1.frozen 5
  have f6 := k1.frozen 6
  have K1 := hide k1
  have XX := hide X1
  clear x1 b0 kS cz k1 X1 HF
  go_wp2_with fail
  obtain ⟨s1', s2'⟩ := sets7 _ 61 (.int .i64 0) (.int .i64 0) (.int .i64 0) (.int .i64 0) (.int .i64 0) (.int .i64 0) (.int .i64 0) (unhide K1)
  refine bodyPost_ret (resW10 _ rfl rfl s1') rfl ?_
  exact ⟨rfl, (unhide XX).trans s2'⟩
theorem szE_leS {l : List Int} (hl : ∀ x ∈ l, 0 ≤ x ∧ x ≤ 255) (r : Int) : szE r l ≤ 2 * l.length := by
  unfold szE
  split
  · obtain ⟨h1, _, h3, h4, h5⟩ := st_at hl (List.prefix_refl (spots l 0))
    unfold byE
    split
    · omega
    · split <;> omega
  · exact Nat.zero_le _
theorem Where10_at (g : Nat) (o : Option Nd) (p : Int) (w : World) (h : IsRo w g o) (hm : (txtO o).length ≤ 268435456) (hW : Wt w) :
    Calls Tryz.prog 21 #[.pointer (some ⟨g, 0, none⟩), .int .i64 p] w fun y w' => y = .returned (whV (txtO o) p) ∧ Below w.heap.size w w' := by
  have hb := bytes_of h
  have hF := fun (X : World) (hx : Below w.heap.size w X) => Floor10_at g o p X (h.on hx) hb hm (hW.below hx)
  by_cases hp : p < 0 ∨ ((txtO o).length : Int) < p
  · have e : whV (txtO o) p = .tuple #[.agg wh0, .int .i64 2] := by unfold whV; rw [if_pos hp]
    rw [e]
    refine Where10_err _ p 2 w (.inr rfl) (hide fun X hx => ?_)
    have := hF X hx
    unfold floorV at this
    rwa [if_pos hp] at this
  · obtain ⟨q, rfl⟩ : ∃ q : Nat, p = (q : Int) := ⟨p.toNat, by omega⟩
    have hq : q ≤ (txtO o).length := by omega
    have hf := flr_le (txtO o) q
    have he : flr (txtO o) q ≤ (txtO o).length := by omega
    have hed := flr_edge (txtO o) q
    have e : whV (txtO o) (q : Int) = .tuple #[.agg (whC (txtO o) (flr (txtO o) q)), .int .i64 0] := by unfold whV; rw [if_neg hp, Int.toNat_natCast]
    rw [e]
    clear e
    have hF' : ∀ X, Below w.heap.size w X → Calls Tryz.prog 30 #[.pointer (some ⟨g, 0, none⟩), .int .i64 (q : Int)] X fun y w' => y = .returned (.tuple #[.int .i64 (flr (txtO o) q : Int), .int .i64 0]) ∧ Below X.heap.size X w' := fun X hx => by
      have := hF X hx
      unfold floorV at this
      rwa [if_neg hp, Int.toNat_natCast] at this
    generalize flr (txtO o) q = ed at *
    obtain ⟨i, hi⟩ := ho_of he
    obtain ⟨n1, n2, n3⟩ := LN_at (txtO o) hi.lt
    have hlo := hi.lo
    rw [hi.eq] at hlo
    have hll := LN_len (txtO o)
    have hbt : ∀ n, ∀ x ∈ (txtO o).take n, 0 ≤ x ∧ x ≤ 255 := fun n x hx => hb x (List.mem_of_mem_take hx)
    obtain ⟨k, hk, hkc⟩ : ∃ k : Nat, endsN ((txtO o).take ed) = (k : Int) ∧ ((k = i ∧ ((LN (txtO o)).getD k z4).2.1 = ((LN (txtO o)).getD i z4).2.1 ∧ ((LN (txtO o)).getD i z4).2.1 ≤ ed) ∨ (k = i + 1 ∧ ed < ((LN (txtO o)).getD k z4).2.1 ∧ i ≤ 268435457)) ∧ k < (LN (txtO o)).length := by
      rcases where_k hi he with h1 | ⟨h1, h2, h3⟩
      · exact ⟨i, h1, .inl ⟨rfl, rfl, hlo⟩, hi.lt⟩
      · exact ⟨i + 1, by rw [h1]; push_cast; rfl, .inr ⟨rfl, h3, by omega⟩, h2⟩
    obtain ⟨hkc, hkl⟩ := hkc
    have hA : ∀ n, n ≤ (txtO o).length → ∀ X, Below w.heap.size w X → Calls Tryz.prog 52 #[.func (.func 53) #[.pointer (some ⟨g, 0, none⟩)] #[], .int .i64 (n : Int)] X fun y w' => y = .returned (.agg #[.int .i64 (n : Int), .int .i64 (szE 2 ((txtO o).take n) : Int), .int .i64 (szE 3 ((txtO o).take n) : Int), .int .i64 (endsN ((txtO o).take n))]) ∧ Below X.heap.size X w' := fun n hn X hx => by
      have := ahead10_at g o n X (h.on hx) hn hm (hW.below hx)
      rw [szV_eq] at this
      obtain ⟨z1, z2, z3⟩ := sz_is (hbt n)
      rw [z1, z2, z3, sz_bytes (hbt n), List.length_take, Nat.min_eq_left hn] at this
      exact this
    have hs : ((LN (txtO o)).getD i z4).2.1 ≤ (txtO o).length := by omega
    have c2 := sz_cut hb ru2S n3.es hed hlo he
    have c3 := sz_cut hb ru3S n3.es hed hlo he
    have s2 := szE_leS (hbt ed) 2
    have s3 := szE_leS (hbt ed) 3
    rw [List.length_take] at s2 s3
    refine (Where10_of g ed k i ((LN (txtO o)).getD i z4).2.1 ((LN (txtO o)).getD k z4).2.1 (q : Int) (szE 2 ((txtO o).take ed) : Int) (szE 3 ((txtO o).take ed) : Int) (szE 2 ((txtO o).take ((LN (txtO o)).getD i z4).2.1) : Int) (szE 3 ((txtO o).take ((LN (txtO o)).getD i z4).2.1) : Int) ((ed - ((LN (txtO o)).getD i z4).2.1 : Nat) : Int) (szE 2 (cutL (txtO o) ((LN (txtO o)).getD i z4).2.1 ed) : Int) (szE 3 (cutL (txtO o) ((LN (txtO o)).getD i z4).2.1 ed) : Int) w
      (hide hF') (hide fun X hx => hk ▸ hA ed he X hx) (hide fun X hx => ?_) (hide fun X hx => begin10_at g o k X (h.on hx) hkl hm (hW.below hx)) (hide fun X hx => begin10_at g o i X (h.on hx) hi.lt hm (hW.below hx)) hkc
      (by rw [wrap_in _ (by omega) (by omega)]; omega) (by unfold cutL; rw [wrap_in _ (by omega) (by omega)]; omega) (by unfold cutL; rw [wrap_in _ (by omega) (by omega)]; omega)).mono ?_
    · refine (hA _ hs X hx).mono ?_
      rintro y w' ⟨rfl, b⟩
      exact ⟨⟨_, rfl⟩, b⟩
    · rintro y w' ⟨rfl, b⟩
      refine ⟨?_, b⟩
      unfold whC
      rw [hi.eq, n1]
theorem fldS10 (a b c d e f : Value) (w : World) : (Instr.field 47 (.agg #[a, b, c, d, e, f]) 0).run Tryz.prog w = .ok (.agg #[a, b, c, d]) w := by kernel_rfl
theorem fldE10 (a b c d : Value) (w : World) : (Instr.field 45 (.agg #[a, b, c, d]) 3).run Tryz.prog w = .ok d w := by kernel_rfl
attribute [local go_sem] fldS10 fldE10
theorem find10_of (g N near n4 lo hi : Nat) (u place m szT szlo P R zb zr zu ze a0 a1 a2 a3 : Int) (zh zt : ByteArray) (L : List Int) (w : World)
    (HLen : Hid (∀ X, Below w.heap.size w X → Calls Tryz.prog 18 #[.pointer (some ⟨g, 0, none⟩)] X fun y w' => y = .returned (.int .i64 (N : Int)) ∧ Below X.heap.size X w'))
    (HWe : Hid (∀ X, Below w.heap.size w X → Calls Tryz.prog 14 #[.pointer (some ⟨g, 0, none⟩)] X fun y w' => y = .returned (.agg #[.int .i64 zb, .int .i64 zr, .int .i64 zu, .int .i64 ze, .string zh, .string zt]) ∧ Below X.heap.size X w'))
    (HB1 : Hid (∀ X, Below w.heap.size w X → Calls Tryz.prog 51 #[.agg #[.int .i64 zb, .int .i64 zr, .int .i64 zu, .int .i64 ze], .int .i64 u] X fun y w' => y = .returned (.int .i64 szT) ∧ Below X.heap.size X w'))
    (HSet : Hid (¬ u = 1 → ∀ X, Below w.heap.size w X → Calls Tryz.prog 87 #[.func (.func 88) #[.pointer (some ⟨g, 0, none⟩)] #[], .int .i64 (N : Int), .int .i64 u, .int .i64 place] X fun y w' => y = .returned (.int .i64 (near : Int)) ∧ Below X.heap.size X w'))
    (HFl : Hid (∀ X, Below w.heap.size w X → Calls Tryz.prog 64 #[.func (.func 17) #[.pointer (some ⟨g, 0, none⟩)] #[], .int .i64 (N : Int), .int .i64 (n4 : Int)] X fun y w' => y = .returned (.int .i64 (lo : Int)) ∧ Below X.heap.size X w'))
    (HBy : Hid (∀ X, Below w.heap.size w X → Calls Tryz.prog 17 #[.pointer (some ⟨g, 0, none⟩), .int .i64 (lo : Int), .int .i64 (hi : Int)] X fun y w' => ∃ v, y = .returned (.tuple #[v, .int .i64 0]) ∧ Own w' X.heap.size v L ∧ Below X.heap.size X w'))
    (HAh : Hid (∀ X, Below w.heap.size w X → Calls Tryz.prog 52 #[.func (.func 53) #[.pointer (some ⟨g, 0, none⟩)] #[], .int .i64 (lo : Int)] X fun y w' => y = .returned (.agg #[.int .i64 a0, .int .i64 a1, .int .i64 a2, .int .i64 a3]) ∧ Below X.heap.size X w'))
    (HB2 : Hid (∀ X, Below w.heap.size w X → Calls Tryz.prog 51 #[.agg #[.int .i64 a0, .int .i64 a1, .int .i64 a2, .int .i64 a3], .int .i64 u] X fun y w' => y = .returned (.int .i64 szlo) ∧ Below X.heap.size X w'))
    (HTo : Hid (∀ X a c, Below w.heap.size w X → IsB X a c L → Calls Tryz.prog 37 #[.slice a L.length c, .int .i64 u, .int .i64 (place - szlo), .int .i64 1, .int .i64 m] X fun y w' => y = .returned (.tuple #[.int .i64 P, .int .i64 R]) ∧ Below X.heap.size X w'))
    (HYB : Hid (∀ x ∈ L, 0 ≤ x ∧ x ≤ 255)) (HLL : Hid (L.length ≤ 268435456)) (h0 : 0 ≤ place) (h1 : place ≤ szT) (hu : u = 1 → place = (near : Int))
    (w1 : wrap64 ((near : Int) - 4) = (near : Int) - 4) (w2 : max 0 ((near : Int) - 4) = (n4 : Int)) (w3 : wrap64 ((near : Int) + 4) = (near : Int) + 4) (w4 : min (N : Int) ((near : Int) + 4) = (hi : Int)) (w5 : wrap64 (place - szlo) = place - szlo) (w6 : wrap64 ((lo : Int) + P) = (lo : Int) + P) :
    Calls Tryz.prog 50 #[.pointer (some ⟨g, 0, none⟩), .int .i64 u, .int .i64 place, .int .i64 m] w fun y w' => y = .returned (.tuple #[.int .i64 (if R = 0 then (lo : Int) + P else 0), .int .i64 R]) ∧ Below w.heap.size w w' := by
  have d0 : decide (place < 0) = false := decide_eq_false (by omega)
  have d1 : decide (szT < place) = false := decide_eq_false (by omega)
  have d2 : decide (place > szT) = false := decide_eq_false (by omega)
  have HU := hide hu
  clear h0 h1 hu
  by_cases hu1 : u = 1
  · have hp := unhide HU hu1
    subst hu1
    subst hp
    clear HU HSet
    go_enter Tryz.func50, Tryz.ntmps50
    go_wp2_with fail
    refine (unhide HLen w (Below.refl _ _)).mono ?_
    rintro y v1 ⟨rfl, x1⟩
    dsimp only
    go_wp2_with fail
    refine (unhide HWe v1 x1).mono ?_
    rintro y v2 ⟨rfl, x2⟩
    dsimp only
    have X2 := x1.trans (x2.mono x1.size)
    go_wp2_with fail
    refine (unhide HB1 v2 X2).mono ?_
    rintro y v3 ⟨rfl, x3⟩
    dsimp only
    have X3 := X2.trans (x3.mono X2.size)
    go_wp2_with fail
    refine (unhide HFl v3 X3).mono ?_
    rintro y v4 ⟨rfl, x4⟩
    dsimp only
    have X4 := X3.trans (x4.mono X3.size)
    clear x1 x2 x3 x4 X2 X3 HLen HWe HB1 HFl
    go_wp2_with fail
    refine (unhide HBy v4 X4).mono ?_
    rintro y v5 ⟨v, rfl, hv, x5⟩
    dsimp only
    have X5 := X4.trans (x5.mono X4.size)
    obtain ⟨a', c', rfl, hN'⟩ := own_isNS hv (unhide HYB) (by have := unhide HLL; omega)
    have HI := hide hN'.1
    clear hv hN' HBy x5 X4
    go_wp2_with fail
    refine (unhide HAh v5 X5).mono ?_
    rintro y v6 ⟨rfl, x6⟩
    dsimp only
    have X6 := X5.trans (x6.mono X5.size)
    have HI6 := hide ((unhide HI).below x6 (Nat.le_refl _))
    clear HI HAh x6 X5
    go_wp2_with fail
    refine (unhide HB2 v6 X6).mono ?_
    rintro y v7 ⟨rfl, x7⟩
    dsimp only
    have X7 := X6.trans (x7.mono X6.size)
    have HI7 := hide ((unhide HI6).below x7 (Nat.le_refl _))
    clear HI6 HB2 x7 X6
    go_wp2_with fail
    refine (unhide HTo v7 a' c' X7 (unhide HI7)).mono ?_
    rintro y v8 ⟨rfl, x8⟩
    dsimp only
    have X8 := X7.trans (x8.mono X7.size)
    clear HI7 HTo x8 X7
    by_cases hR : R = 0
    · subst hR
      go_wp2_with fail
      refine bodyPost_ret (results_tmp2 rfl _ _ _) rfl ?_
      exact ⟨congrArg Ending.returned (by simp), X8⟩
    · have e1 : (R != 0) = true := by simpa using hR
      have e2 : (R == 0) = false := by simpa using hR
      go_wp2_with fail
      refine bodyPost_ret (results_tmp2 rfl _ _ _) rfl ?_
      exact ⟨rfl, X8⟩
  · have e3 : (u != 1) = true := by simpa using hu1
    have e4 : (u == 1) = false := by simpa using hu1
    have HSt := hide (unhide HSet hu1)
    clear HU HSet hu1
    go_enter Tryz.func50, Tryz.ntmps50
    go_wp2_with fail
    refine (unhide HLen w (Below.refl _ _)).mono ?_
    rintro y v1 ⟨rfl, x1⟩
    dsimp only
    go_wp2_with fail
    refine (unhide HWe v1 x1).mono ?_
    rintro y v2 ⟨rfl, x2⟩
    dsimp only
    have X2 := x1.trans (x2.mono x1.size)
    go_wp2_with fail
    refine (unhide HB1 v2 X2).mono ?_
    rintro y v3 ⟨rfl, x3⟩
    dsimp only
    have X3 := X2.trans (x3.mono X2.size)
    go_wp2_with fail
    refine (unhide HSt v3 X3).mono ?_
    rintro y v3' ⟨rfl, x3'⟩
    dsimp only
    have X3' := X3.trans (x3'.mono X3.size)
    go_wp2_with fail
    refine (unhide HFl v3' X3').mono ?_
    rintro y v4 ⟨rfl, x4⟩
    dsimp only
    have X4 := X3'.trans (x4.mono X3'.size)
    clear x1 x2 x3 x4 X2 X3 x3' X3' HLen HWe HB1 HFl HSt
    go_wp2_with fail
    refine (unhide HBy v4 X4).mono ?_
    rintro y v5 ⟨v, rfl, hv, x5⟩
    dsimp only
    have X5 := X4.trans (x5.mono X4.size)
    obtain ⟨a', c', rfl, hN'⟩ := own_isNS hv (unhide HYB) (by have := unhide HLL; omega)
    have HI := hide hN'.1
    clear hv hN' HBy x5 X4
    go_wp2_with fail
    refine (unhide HAh v5 X5).mono ?_
    rintro y v6 ⟨rfl, x6⟩
    dsimp only
    have X6 := X5.trans (x6.mono X5.size)
    have HI6 := hide ((unhide HI).below x6 (Nat.le_refl _))
    clear HI HAh x6 X5
    go_wp2_with fail
    refine (unhide HB2 v6 X6).mono ?_
    rintro y v7 ⟨rfl, x7⟩
    dsimp only
    have X7 := X6.trans (x7.mono X6.size)
    have HI7 := hide ((unhide HI6).below x7 (Nat.le_refl _))
    clear HI6 HB2 x7 X6
    go_wp2_with fail
    refine (unhide HTo v7 a' c' X7 (unhide HI7)).mono ?_
    rintro y v8 ⟨rfl, x8⟩
    dsimp only
    have X8 := X7.trans (x8.mono X7.size)
    clear HI7 HTo x8 X7
    by_cases hR : R = 0
    · subst hR
      go_wp2_with fail
      refine bodyPost_ret (results_tmp2 rfl _ _ _) rfl ?_
      exact ⟨congrArg Ending.returned (by simp), X8⟩
    · have e1 : (R != 0) = true := by simpa using hR
      have e2 : (R == 0) = false := by simpa using hR
      go_wp2_with fail
      refine bodyPost_ret (results_tmp2 rfl _ _ _) rfl ?_
      exact ⟨rfl, X8⟩
end
section
attribute [local go_sem] Oper.semAt_some
theorem To10_of (g E : Nat) (f place t m R V a0 a1 a2 a3 : Int) (w : World)
    (HKn : Hid (∀ X, Below w.heap.size w X → Calls Tryz.prog 49 #[.int .i64 f, .int .i64 t, .int .i64 m] X fun y w' => y = .returned (.int .i64 0) ∧ Below X.heap.size X w'))
    (HFi : Hid (∀ X, Below w.heap.size w X → Calls Tryz.prog 50 #[.pointer (some ⟨g, 0, none⟩), .int .i64 f, .int .i64 place, .int .i64 m] X fun y w' => y = .returned (.tuple #[.int .i64 (E : Int), .int .i64 R]) ∧ Below X.heap.size X w'))
    (HAh : Hid (R = 0 → ∀ X, Below w.heap.size w X → Calls Tryz.prog 52 #[.func (.func 53) #[.pointer (some ⟨g, 0, none⟩)] #[], .int .i64 (E : Int)] X fun y w' => y = .returned (.agg #[.int .i64 a0, .int .i64 a1, .int .i64 a2, .int .i64 a3]) ∧ Below X.heap.size X w'))
    (HB : Hid (∀ X, Below w.heap.size w X → Calls Tryz.prog 51 #[.agg #[.int .i64 a0, .int .i64 a1, .int .i64 a2, .int .i64 a3], .int .i64 t] X fun y w' => y = .returned (.int .i64 V) ∧ Below X.heap.size X w')) (hV : ¬ R = 0 → V = 0) :
    Calls Tryz.prog 20 #[.pointer (some ⟨g, 0, none⟩), .int .i64 f, .int .i64 place, .int .i64 t, .int .i64 m] w fun y w' => y = .returned (.tuple #[.int .i64 V, .int .i64 R]) ∧ Below w.heap.size w w' := by
  have HV := hide hV
  clear hV
  go_enter Tryz.func20, Tryz.ntmps20
  go_wp2_with fail
  refine (unhide HKn w (Below.refl _ _)).mono ?_
  rintro y v1 ⟨rfl, x1⟩
  dsimp only
  go_wp2_with fail
  refine (unhide HFi v1 x1).mono ?_
  rintro y v2 ⟨rfl, x2⟩
  dsimp only
  have X2 := x1.trans (x2.mono x1.size)
  clear x1 x2 HKn HFi
  by_cases hR : R = 0
  · have HAh' := hide (unhide HAh hR)
    subst hR
    clear HAh HV
    go_wp2_with fail
    refine (unhide HAh' v2 X2).mono ?_
    rintro y v3 ⟨rfl, x3⟩
    dsimp only
    have X3 := X2.trans (x3.mono X2.size)
    go_wp2_with fail
    refine (unhide HB v3 X3).mono ?_
    rintro y v4 ⟨rfl, x4⟩
    dsimp only
    have X4 := X3.trans (x4.mono X3.size)
    go_wp2_with fail
    refine bodyPost_ret (results_tmp2 rfl _ _ _) rfl ?_
    exact ⟨rfl, X4⟩
  · obtain rfl := unhide HV hR
    clear HV HAh HB
    go_wp2_with fail
    refine bodyPost_ret (results_tmp2 rfl _ _ _) rfl ?_
    exact ⟨rfl, X2⟩
theorem cells3S {W : World} {g : Nat} {x y z : Value} {t : TypeId} (h : W.heap[g]? = some (.cells #[x, y, z] t (0, 0))) : W.cell? ⟨g, 0, none⟩ = some x ∧ W.cell? ⟨g, 1, none⟩ = some y ∧ W.cell? ⟨g, 2, none⟩ = some z ∧ ∀ i, W.frozen? ⟨g, i, none⟩ = false :=
  ⟨by simp only [World.cell?, h]; rfl, by simp only [World.cell?, h]; rfl, by simp only [World.cell?, h]; rfl, fun i => by simp only [World.frozen?, h]; simp⟩
theorem box3S {W : World} {g : Nat} {x y z : Value} {t : TypeId} (h : W.heap[g]? = some (.cells #[x, y, z] t (0, 0))) (a b c : Value) :
    (((W.setCell ⟨g, 0, none⟩ a).setCell ⟨g, 1, none⟩ b).setCell ⟨g, 2, none⟩ c).heap[g]? = some (.cells #[a, b, c] t (0, 0)) := by
  have h0 := heap_setCell_same W g 0 #[x, y, z] t a h
  have h1 := heap_setCell_same _ g 1 _ t b h0
  exact heap_setCell_same _ g 2 _ t c h1
theorem below3S {w W : World} {g : Nat} (h : Below w.heap.size w W) (hg : w.heap.size ≤ g) (a b c : Value) : Below w.heap.size w (((W.setCell ⟨g, 0, none⟩ a).setCell ⟨g, 1, none⟩ b).setCell ⟨g, 2, none⟩ c) :=
  ((h.setCell (p := ⟨g, 0, none⟩) hg _).setCell (p := ⟨g, 1, none⟩) hg _).setCell (p := ⟨g, 2, none⟩) hg _
end
section
def tab : List Int := (List.range 245).map fun (i : Nat) => cls (i : Int)
theorem laid_eq : (Rows.laid_galley_octet_classes : DataW Unit) = Lib.tabData .u8 tab := by kernel_rfl
theorem ownC : ownKnob Tryz.prog.godebug = none := by kernel_rfl
theorem gTab : Tryz.prog.globalNamed "galley/octet.classes" = some 0 := by kernel_rfl
theorem gTabType : (Tryz.prog.globals[0]?).map (·.type) = some 206 := by kernel_rfl
theorem cellsTab : Tryz.prog.cellsOf 206 = 245 := by kernel_rfl
theorem cellsByte : Tryz.prog.cellsOf 5 = 1 := by kernel_rfl
theorem laidOut : laidOutB Tryz.prog = true := by kernel_rfl
end
section
theorem bulk_pos {H : Type} (d : DataW H) : 0 < Rows.uptoBulk d := by
  cases d with
  | lit l => cases l <;> simp [Rows.uptoBulk]
  | _ => simp [Rows.uptoBulk]
theorem bulk_count {H : Type} : ∀ l : List (DataW H), l.length ≤ Rows.uptoBulkAll l
  | [] => Nat.zero_le _
  | d :: r => by
    have h1 := bulk_pos d
    have h2 := bulk_count r
    simp only [List.length_cons, Rows.uptoBulkAll]
    omega
theorem bulk_at {H : Type} : ∀ {l : List (DataW H)} {j : Nat} {d : DataW H}, l[j]? = some d → Rows.uptoBulk d ≤ Rows.uptoBulkAll l
  | [], _, _, h => by simp at h
  | e :: r, 0, d, h => by
    simp only [List.getElem?_cons_zero, Option.some.injEq] at h
    subst h
    simp only [Rows.uptoBulkAll]
    omega
  | e :: r, j + 1, d, h => by
    have := bulk_at (l := r) (j := j) (by simpa using h)
    simp only [Rows.uptoBulkAll]
    omega
end
section
def bulkL (ls : List (List Int)) : Nat := (ls.map List.length).sum
theorem le_sum : ∀ {l : List Nat} {x : Nat}, x ∈ l → x ≤ l.sum
  | [], _, h => by cases h
  | y :: l, x, h => by
    rw [List.sum_cons]
    rcases List.mem_cons.1 h with rfl | h
    · omega
    · have := le_sum h; omega
theorem bulk_rows {H : Type} (A : Nat → Option Addr) (L C : Nat → Nat) (Z : Nat → List Int) : ∀ (rs : List Nat), (∀ r ∈ rs, L r ≤ C r ∧ (Z r).length = C r ∧ (A r = none → C r = 0)) →
    bulkL (rs.map fun r => (Z r).take (L r)) + rs.length ≤ Rows.uptoBulkAll (rs.map fun r => (Go.Deep.intRow .u8 (A r) (L r) (Z r) : DataW H))
  | [], _ => by simp [bulkL, Rows.uptoBulkAll]
  | r :: rs, h => by
    have ih := bulk_rows (H := H) A L C Z rs (fun x hx => h x (List.mem_cons_of_mem _ hx))
    obtain ⟨h1, h2, h3⟩ := h r (List.mem_cons_self ..)
    have hb : ((Z r).take (L r)).length + 1 ≤ Rows.uptoBulk (Go.Deep.intRow .u8 (A r) (L r) (Z r) : DataW H) := by
      unfold Go.Deep.intRow
      cases hA : A r with
      | none => simp [h3 hA] at h1; simp [h1, Rows.uptoBulk]
      | some a =>
        have := bulk_count (H := H) (lits .u8 ((Z r).take (L r)))
        simp only [lits, List.length_map] at this
        simp only [Rows.uptoBulk, lits]
        omega
    simp only [List.map_cons, Rows.uptoBulkAll, bulkL, List.sum_cons, List.length_cons] at ih ⊢
    omega
end
section
def IsNN (W : World) (a0 : Option Addr) (ls : List (List Int)) : Prop := ls = [] ∨ ∃ g off, a0 = some ⟨g, off, none⟩ ∧ g < W.heap.size ∧ ∀ r, r < ls.length →
  ∃ A C, W.cell? ⟨g, off + r, none⟩ = some (.slice A (ls.getD r []).length C) ∧ IsN W A C (ls.getD r [])
theorem nrows_of_trod {H : Type} {enc : TypeId × Value → H} {W : World} {a0 : Option Addr} {len0 cap0 : Nat} {d0 : DataW H} {p0 : List MemPlace}
    (h0 : DataW.Trod enc Tryz.prog W 0 (fun _ => true) true 22 (Value.slice a0 len0 cap0) d0 p0)
    {ds : List (DataW H)} {j : Nat} (hk : Rows.uptoSmall H ds = true) (hd : ds[j]? = some d0) : ∃ ls : List (List Int), len0 = ls.length ∧ IsNN W a0 ls ∧ bulkL ls + ls.length ≤ 1048576 := by
  have hb : Rows.uptoBulkAll ds ≤ 1048576 := of_decide_eq_true hk
  have h1 := bulk_at hd
  obtain ⟨fuel, hf⟩ := h0
  rcases Go.Deep.open_int_rows Tryz.underlying22 Tryz.underlying30 Tryz.underlying5 (by kernel_rfl) (by kernel_rfl) hf with ⟨hcs, _⟩ | ⟨x, len, cap, A, L, C, Z, hcs, _, hl, hm, hx, hrow⟩
  · simp [Value.cells] at hcs
    obtain ⟨rfl, rfl, rfl⟩ := hcs
    exact ⟨[], rfl, Or.inl rfl, by simp [bulkL]⟩
  · simp [Value.cells] at hcs
    obtain ⟨rfl, rfl, rfl⟩ := hcs
    simp only [Prod.mk.injEq] at hx
    obtain ⟨rfl, _⟩ := hx
    have hbr := bulk_rows (H := H) A L C Z (List.range len0) (fun r hr => by
      obtain ⟨_, k1, _, k3, _, k5, _⟩ := hrow r (by have := List.mem_range.1 hr; omega)
      exact ⟨k1, k3, k5⟩)
    simp only [Rows.uptoBulk, List.length_range] at h1 hbr
    refine ⟨(List.range len0).map fun r => (Z r).take (L r), by simp, ?_, by simp only [List.length_map, List.length_range]; omega⟩
    rcases Nat.eq_zero_or_pos len0 with h0 | h0
    · subst h0; exact Or.inl rfl
    · obtain ⟨b, off, spot⟩ := x
      have hspot : spot = none := by simpa [Addr.add] using World.cell?_spot (hrow 0 (by omega)).1
      subst hspot
      have hc0 := (hrow 0 (by omega)).1
      have hbl : b < W.heap.size := by
        rcases Nat.lt_or_ge b W.heap.size with h | h
        · exact h
        · rw [Addr.add_lit] at hc0
          simp [World.cell?, Array.getElem?_eq_none h] at hc0
      refine Or.inr ⟨b, off, rfl, hbl, fun r hr => ?_⟩
      simp only [List.length_map, List.length_range] at hr
      obtain ⟨q1, q2, q3, q4, q5, q6, q7⟩ := hrow r (by omega)
      have e : ((List.range len0).map fun r => (Z r).take (L r)).getD r [] = (Z r).take (L r) := by simp [List.getD, hr]
      rw [e]
      have hlen : ((Z r).take (L r)).length = L r := by simp; omega
      rw [Addr.add_lit] at q1
      have hL : L r ≤ 1048576 := by
        have hm2 : ((Z r).take (L r)).length ≤ bulkL ((List.range len0).map fun r => (Z r).take (L r)) := by
          unfold bulkL
          refine le_sum ?_
          simp only [List.map_map, List.mem_map, List.mem_range, Function.comp]
          exact ⟨r, hr, rfl⟩
        omega
      refine ⟨A r, C r, by rw [hlen]; exact q1, ⟨by rw [hlen]; exact q2, by rw [hlen]; omega, ?_, fun y hy => bounds_u8 (q5 y (List.mem_of_mem_take hy))⟩, fun e => q6 e⟩
      rcases Nat.eq_zero_or_pos (L r) with h0' | h0'
      · left; exact List.length_eq_zero_iff.1 (by rw [hlen]; exact h0')
      · cases hA : A r with
        | none => have := q6 hA; omega
        | some a' =>
          obtain ⟨_, q8⟩ := q7 a' hA
          obtain ⟨b', off', spot'⟩ := a'
          have hspot' : spot' = none := by simpa [Addr.add] using World.cell?_spot (q8 0 (by omega))
          subst hspot'
          refine Or.inr ⟨b', off', rfl, fun i hi => ?_⟩
          rw [hlen] at hi
          have e2 : ((Z r).take (L r)).getD i 0 = (Z r).getD i 0 := by simp [List.getD, hi]
          rw [e2]
          have hc := q8 i (by omega)
          rw [Addr.add_lit] at hc
          refine ⟨hc, ?_⟩
          have := bounds_u8 (q5 ((Z r)[i]'(by omega)) (List.getElem_mem _))
          simpa [List.getD, List.getElem?_eq_getElem (show i < (Z r).length by omega)] using this
theorem IsNN.below {W W' : World} {B : Nat} {a0 : Option Addr} {ls : List (List Int)} (h : IsNN W a0 ls) (hb : Below B W W') (hB : W.heap.size ≤ B) : IsNN W' a0 ls := by
  rcases h with h | ⟨g, off, rfl, hg, hr⟩
  · exact Or.inl h
  · refine Or.inr ⟨g, off, rfl, Nat.lt_of_lt_of_le hg hb.size, fun r hlt => ?_⟩
    obtain ⟨A, C, h1, h2⟩ := hr r hlt
    exact ⟨A, C, (hb.cell (p := ⟨g, off + r, none⟩) (by show g < B; omega)).trans h1, h2.below hb hB⟩
end
end Go.Proofs.YteamaneompijkaaGreatDoor
