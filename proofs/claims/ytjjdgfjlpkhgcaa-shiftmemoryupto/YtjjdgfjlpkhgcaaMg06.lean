/- Layer 13: plain, apart and each. · Layer 13: each, of any three functions that keep what is said. · A region that draws its order: what is listed already need not wait. · Layer 13: sizes, and measure. -/
import Derived.Test.YtjjdgfjlpkhgcaaMg05
import Derived.Test.YtjjdgfjlpkhgcaaMg04

section
namespace Go.Proofs.Ytjjdgfjlpkhgcaa
open Go.ChangeShapes Go.WideShapes Go.ChangeAt Go.RowKit
attribute [local go_sem] Oper.semAt_some

def plB (o : Dop) : Bool := if o.k = 2 then !o.t.isEmpty && o.n == 0 else o.t.isEmpty && decide (1 ≤ o.n)
theorem plain_cases (o : Dop) :
    (plB o = true ∧ (((o.k == 2) = true ∧ (o.k != 2) = false ∧ o.t.isEmpty = false ∧ (o.n != 0) = false) ∨ ((o.k == 2) = false ∧ (o.k != 2) = true ∧ o.t.isEmpty = true ∧ decide (o.n < 1) = false))) ∨
    (plB o = false ∧ (((o.k == 2) = true ∧ o.t.isEmpty = true) ∨ ((o.k == 2) = true ∧ o.t.isEmpty = false ∧ (o.n != 0) = true) ∨ ((o.k == 2) = false ∧ (o.k != 2) = true ∧ o.t.isEmpty = false) ∨ ((o.k == 2) = false ∧ (o.k != 2) = true ∧ o.t.isEmpty = true ∧ decide (o.n < 1) = true))) := by
  obtain ⟨k, n, t⟩ := o
  unfold plB
  dsimp only
  by_cases h2 : k = 2
  · subst h2
    cases t with
    | nil => simp
    | cons a r => by_cases hn : n = 0 <;> simp [hn]
  · cases t with
    | nil =>
      by_cases hn : n < 1
      · have : ¬ 1 ≤ n := by omega
        simp [h2, hn, this]
      · have : 1 ≤ n := by omega
        simp [h2, hn, this]
    | cons a r => simp [h2]
/-- a round's opening: the k-th operation in a box of its own -/
theorem box_op {wr : World} {g off k : Nat} {x : Dop} (c0 : wr.cell? ⟨g, off + k * 3, none⟩ = some (.int .i64 x.k)) : (wr.alloc (.cells #[.int .i64 x.k, .int .i64 x.n, .string (strOfNums x.t)] 34)).cell? ⟨g, off + k * 3, none⟩ = some (.int .i64 x.k) := by
  have hg : g < wr.heap.size := by
    rcases Nat.lt_or_ge g wr.heap.size with h' | h'
    · exact h'
    · simp [World.cell?, Array.getElem?_eq_none h'] at c0
  exact (((Below.refl wr.heap.size wr).alloc (Nat.le_refl _) _).cell (p := ⟨g, off + k * 3, none⟩) hg).trans c0
set_option maxRecDepth 100000 in
set_option maxHeartbeats 2000000 in
theorem plain_at (a : Option Addr) (c : Nat) (d : List Dop) (w : World) (h : IsO w a d) (hl : d.length ≤ 4611686018427387904) :
    Calls Try.prog 60 #[.slice a d.length c] w fun y w' => y = .returned (.bool (d.all plB)) ∧ Below w.heap.size w w' := by
  have HO := hide fun (X : World) (hx : Below w.heap.size w X) => h.below hx (Nat.le_refl _)
  clear h
  go_enter Try.func60, Try.ntmps60
  go_wp2_with fail
  go_loopw [4, 7] (fun v4 v9 wx => (∃ z, v4 = z) ∧ (∃ k : Nat, v9 = .int .i64 (k : Int) ∧ k ≤ d.length ∧ Hid ((d.take k).all plB = true)) ∧ Hid (Below w.heap.size w wx)) (fun _ v9 _ => d.length - (intOf v9).toNat)
  case atStart => exact ⟨⟨_, rfl⟩, ⟨0, rfl, Nat.zero_le _, hide rfl⟩, hide (Below.refl _ _)⟩
  case round =>
    obtain ⟨⟨z1, rfl⟩, ⟨k, rfl, hk, HK⟩, HB⟩ := hrel
    by_cases hlt : k < d.length
    · have t1 : decide ((k : Int) < (d.length : Int)) = true := decide_eq_true (by omega)
      obtain ⟨g, off, rfl, hg, c0, c1, c2⟩ := (unhide HO wr (unhide HB)).three hlt
      have HAT := hide (all_take d plB hlt)
      have HAN := hide (all_no d plB hlt)
      have HKC := hide (plain_cases (d.getD k opZ))
      generalize d.getD k opZ = x at *
      obtain ⟨xk, xn, xt⟩ := x
      dsimp only at c0 c1 c2 HKC
      rw [← str_empD xt] at HKC
      obtain ⟨d0, d1, d2⟩ := three_nwD wr (.int .i64 xk) (.int .i64 xn) (.string (strOfNums xt)) (t := 34)
      have HA := hide ((unhide HB).trans (((Below.refl wr.heap.size wr).alloc (Nat.le_refl _) (.cells #[.int .i64 xk, .int .i64 xn, .string (strOfNums xt)] 34)).mono (unhide HB).size))
      generalize strOfNums xt = st at *
      clear HB
      go_upto_region 4 with fail
      clear c0 c1 c2
      generalize wr.alloc (.cells #[.int .i64 xk, .int .i64 xn, .string st] 34) = v0 at *
      generalize wr.heap.size = gb at *
      rcases unhide HKC with ⟨hb, ⟨s1, s2, s3, s4⟩ | ⟨s1, s2, s3, s4⟩⟩ | ⟨hb, ⟨s1, s2⟩ | ⟨s1, s2, s3⟩ | ⟨s1, s2, s3⟩ | ⟨s1, s2, s3, s4⟩⟩
      · have HK2 : Hid ((d.take (k + 1)).all plB = true) := hide (by rw [unhide HAT, unhide HK, hb]; rfl)
        clear HK HKC HAT HAN hb
        go_wp2_with fail
        go_roundw
        case rel => exact ⟨⟨_, rfl⟩, ⟨k + 1, by go_num, hlt, HK2⟩, HA⟩
        case measure => simp [intOf]; omega
      · have HK2 : Hid ((d.take (k + 1)).all plB = true) := hide (by rw [unhide HAT, unhide HK, hb]; rfl)
        clear HK HKC HAT HAN hb
        go_wp2_with fail
        go_roundw
        case rel => exact ⟨⟨_, rfl⟩, ⟨k + 1, by go_num, hlt, HK2⟩, HA⟩
        case measure => simp [intOf]; omega
      all_goals
        have HV : Hid (d.all plB = false) := hide (unhide HAN hb)
        clear HK HKC HAT HAN hb
        go_wp2_with fail
        rw [unhide HV]
        refine bodyPost_ret (results_tmp rfl _ _ _) rfl ⟨rfl, unhide HA⟩
    · obtain rfl : k = d.length := by omega
      have t1 : decide ((d.length : Int) < (d.length : Int)) = false := decide_eq_false (by omega)
      have HV : Hid (d.all plB = true) := hide (by have := unhide HK; rwa [List.take_length] at this)
      clear HK hk
      go_wp2_with fail
      rw [unhide HV]
      refine bodyPost_ret (results_tmp rfl _ _ _) rfl ⟨rfl, unhide HB⟩
/-- may this stand there? -/
def apB (m t : Int) : Bool := if t = 1 then m == 7 || m == 5 || m == 1 else if t = 2 then m == 7 || m == 6 else if t = 4 then m == 7 || m == 6 || m == 5 else false
def apL : Int → List Dop → Bool
  | _, [] => true
  | m, o :: r => apB m (thisN o.k) && apL (nextN o.k) r
theorem apL_at {d : List Dop} {k : Nat} (hk : k < d.length) (m : Int) : apL m (d.drop k) = (apB m (thisN (d.getD k opZ).k) && apL (nextN (d.getD k opZ).k) (d.drop (k + 1))) := by
  rw [List.drop_eq_getElem_cons hk]
  have e : d.getD k opZ = d[k] := by simp [List.getD, List.getElem?_eq_getElem hk]
  rw [e]
  rfl
theorem turn_cases (k : Int) : (thisN k = 1 ∧ nextN k = 6) ∨ (thisN k = 2 ∧ nextN k = 5) ∨ (thisN k = 4 ∧ nextN k = 1) ∨ (thisN k = 0 ∧ nextN k = 0) := by
  unfold thisN nextN
  by_cases h1 : k = 1
  · simp [h1]
  by_cases h2 : k = 2
  · simp [h2]
  by_cases h3 : k = 3
  · simp [h3]
  · simp [h1, h2, h3]
set_option maxRecDepth 100000 in
set_option maxHeartbeats 4000000 in
theorem apart_at (a : Option Addr) (c : Nat) (d : List Dop) (w : World) (h : IsO w a d) (hl : d.length ≤ 4611686018427387904) :
    Calls Try.prog 61 #[.slice a d.length c] w fun y w' => y = .returned (.bool (apL 7 d)) ∧ Below w.heap.size w w' := by
  have HO := hide fun (X : World) (hx : Below w.heap.size w X) => h.below hx (Nat.le_refl _)
  clear h
  go_enter Try.func61, Try.ntmps61
  go_wp2_with fail
  go_loopw [3, 5, 6, 7, 10] (fun v3 v5 v6 v7 v9 wx => (∃ z, v5 = z) ∧ (∃ z, v6 = z) ∧ (∃ z, v7 = z) ∧ (∃ (k : Nat) (m : Int), v9 = .int .i64 (k : Int) ∧ v3 = .int .i64 m ∧ (m = 7 ∨ m = 6 ∨ m = 5 ∨ m = 1) ∧ k ≤ d.length ∧ Hid (apL 7 d = apL m (d.drop k))) ∧ Hid (Below w.heap.size w wx)) (fun _ _ _ _ v9 _ => d.length - (intOf v9).toNat)
  case atStart => exact ⟨⟨_, rfl⟩, ⟨_, rfl⟩, ⟨_, rfl⟩, ⟨0, 7, rfl, rfl, .inl rfl, Nat.zero_le _, hide (by rw [List.drop_zero])⟩, hide (Below.refl _ _)⟩
  case round =>
    obtain ⟨⟨z1, rfl⟩, ⟨z2, rfl⟩, ⟨z3, rfl⟩, ⟨k, m, rfl, rfl, hm, hk, HK⟩, HB⟩ := hrel
    have HM := hide hm
    clear hm
    by_cases hlt : k < d.length
    · have t1 : decide ((k : Int) < (d.length : Int)) = true := decide_eq_true (by omega)
      obtain ⟨g, off, rfl, hg, c0, c1, c2⟩ := (unhide HO wr (unhide HB)).three hlt
      have HAT := hide (apL_at hlt m)
      generalize d.getD k opZ = x at *
      obtain ⟨xk, xn, xt⟩ := x
      dsimp only at c0 c1 c2 HAT
      obtain ⟨d0, d1, d2⟩ := three_nwD wr (.int .i64 xk) (.int .i64 xn) (.string (strOfNums xt)) (t := 34)
      have HA := hide ((unhide HB).trans (((Below.refl wr.heap.size wr).alloc (Nat.le_refl _) (.cells #[.int .i64 xk, .int .i64 xn, .string (strOfNums xt)] 34)).mono (unhide HB).size))
      generalize strOfNums xt = st at *
      clear HB
      go_wp2_with fail
      clear c0 c1 c2 d0 d1 d2
      generalize wr.alloc (.cells #[.int .i64 xk, .int .i64 xn, .string st] 34) = v0 at *
      generalize wr.heap.size = gb at *
      refine (turn_at xk v0).mono ?_
      rintro y v1 ⟨rfl, x1⟩
      dsimp only
      have HA1 := hide ((unhide HA).trans (x1.mono (unhide HA).size))
      have HTC := hide (turn_cases xk)
      clear HA x1
      generalize thisN xk = th at *
      generalize nextN xk = nx at *
      rcases unhide HTC with ⟨rfl, rfl⟩ | ⟨rfl, rfl⟩ | ⟨rfl, rfl⟩ | ⟨rfl, rfl⟩ <;> rcases unhide HM with rfl | rfl | rfl | rfl
      all_goals
        clear HTC HM
        first
        | (have HK2 := hide ((unhide HK).trans ((unhide HAT).trans (show (true && _) = _ from Bool.true_and _)))
           clear HK HAT
           go_wp2_with fail
           go_roundw
           case rel => exact ⟨⟨_, rfl⟩, ⟨_, rfl⟩, ⟨_, rfl⟩, ⟨k + 1, _, by go_num, rfl, by decide, hlt, HK2⟩, HA1⟩
           case measure => simp [intOf]; omega)
        | (have HV := hide ((unhide HK).trans ((unhide HAT).trans (show (false && _) = _ from Bool.false_and _)))
           clear HK HAT
           go_wp2_with fail
           rw [unhide HV]
           refine bodyPost_ret (results_tmp rfl _ _ _) rfl ⟨rfl, unhide HA1⟩)
    · obtain rfl : k = d.length := by omega
      have t1 : decide ((d.length : Int) < (d.length : Int)) = false := decide_eq_false (by omega)
      have HV : Hid (apL 7 d = true) := hide (by have := unhide HK; rw [List.drop_length] at this; rw [this]; rfl)
      clear HK hk
      go_wp2_with fail
      rw [unhide HV]
      refine bodyPost_ret (results_tmp rfl _ _ _) rfl ⟨rfl, unhide HB⟩

end Go.Proofs.Ytjjdgfjlpkhgcaa
end

section
namespace Go.Proofs.Ytjjdgfjlpkhgcaa
open Go.ChangeShapes Go.WideShapes Go.ChangeAt Go.RowKit
attribute [local go_sem] Oper.semAt_some

set_option maxRecDepth 100000 in
set_option maxHeartbeats 4000000 in
theorem each_at (a : Option Addr) (c B : Nat) (d : List Dop) (w : World) (fk fp fd : Nat) (rv : Value) (I : Nat → World → Prop)
    (ek : ∀ args w, (callFunc fk args).run Try.prog w = .ok (.enter fk args) w) (ep : ∀ args w, (callFunc fp args).run Try.prog w = .ok (.enter fp args) w) (ed : ∀ args w, (callFunc fd args).run Try.prog w = .ok (.enter fd args) w)
    (hd : ∀ X, Below B w X → IsO X a d) (hI : ∀ k X, I k X → Below B w X) (hA : ∀ k X o, I k X → I k (X.alloc o)) (h0 : I 0 w) (hl : d.length ≤ 4611686018427387904)
    (hk : ∀ k X, k < d.length → (d.getD k opZ).k = 1 → I k X → Calls Try.prog fk #[rv, .int .i64 (d.getD k opZ).n] X fun y X' => y = .returned (.tuple #[]) ∧ I (k + 1) X')
    (hp : ∀ k X, k < d.length → (d.getD k opZ).k = 2 → I k X → Calls Try.prog fp #[rv, .string (strOfNums (d.getD k opZ).t)] X fun y X' => y = .returned (.tuple #[]) ∧ I (k + 1) X')
    (hq : ∀ k X, k < d.length → (d.getD k opZ).k = 3 → I k X → Calls Try.prog fd #[rv, .int .i64 (d.getD k opZ).n] X fun y X' => y = .returned (.tuple #[]) ∧ I (k + 1) X')
    (hz : ∀ k X, k < d.length → (d.getD k opZ).k ≠ 1 → (d.getD k opZ).k ≠ 2 → (d.getD k opZ).k ≠ 3 → I k X → I (k + 1) X) :
    Calls Try.prog 38 #[.slice a d.length c, .func (.func fk) #[rv] #[], .func (.func fp) #[rv] #[], .func (.func fd) #[rv] #[]] w fun y w' => y = .returned (.tuple #[]) ∧ I d.length w' := by
  have HO := hide hd
  have HI := hide hI
  have HAl := hide hA
  have HK := hide hk
  have HP := hide hp
  have HQ := hide hq
  have HZ := hide hz
  have H0 := hide h0
  clear hd hI hA hk hp hq hz h0
  go_enter Try.func38, Try.ntmps38
  go_wp2_with fail
  go_loopw [9, 12] (fun v9 v12 wx => (∃ z, v9 = z) ∧ (∃ k : Nat, v12 = .int .i64 (k : Int) ∧ k ≤ d.length ∧ Hid (I k wx))) (fun _ v12 _ => d.length - (intOf v12).toNat)
  case atStart => exact ⟨⟨_, rfl⟩, ⟨0, rfl, Nat.zero_le _, H0⟩⟩
  case round =>
    clear H0
    obtain ⟨⟨z1, rfl⟩, ⟨k, rfl, hk, HB⟩⟩ := hrel
    by_cases hlt : k < d.length
    · have t1 : decide ((k : Int) < (d.length : Int)) = true := decide_eq_true (by omega)
      obtain ⟨g, off, rfl, hg, c0, c1, c2⟩ := (unhide HO wr (unhide HI k wr (unhide HB))).three hlt
      have HK1 := hide fun (X : World) => unhide HK k X hlt
      have HP1 := hide fun (X : World) => unhide HP k X hlt
      have HQ1 := hide fun (X : World) => unhide HQ k X hlt
      have HZ1 := hide fun (X : World) => unhide HZ k X hlt
      generalize d.getD k opZ = x at *
      obtain ⟨xk, xn, xt⟩ := x
      dsimp only at c0 c1 c2 HK1 HP1 HQ1 HZ1
      obtain ⟨d0, d1, d2⟩ := three_nwD wr (.int .i64 xk) (.int .i64 xn) (.string (strOfNums xt)) (t := 34)
      have HA := hide (unhide HAl k wr (.cells #[.int .i64 xk, .int .i64 xn, .string (strOfNums xt)] 34) (unhide HB))
      generalize strOfNums xt = st at *
      clear HB HK HP HQ HZ
      go_upto_region 3 with fail
      clear c0 c1 c2
      generalize wr.alloc (.cells #[.int .i64 xk, .int .i64 xn, .string st] 34) = v0 at *
      generalize wr.heap.size = gb at *
      by_cases h1 : xk = 1
      · have HC := hide (unhide HK1 v0 h1 (unhide HA))
        subst h1
        clear HK1 HP1 HQ1 HZ1
        go_wp2_with fail
        refine (unhide HC).mono ?_
        rintro y v1 ⟨rfl, hi1⟩
        dsimp only
        have HN := hide hi1
        clear HC hi1
        go_wp2_with fail
        go_roundw
        case rel => exact ⟨⟨_, rfl⟩, ⟨k + 1, by go_num, hlt, HN⟩⟩
        case measure => simp [intOf]; omega
      by_cases h2 : xk = 2
      · have HC := hide (unhide HP1 v0 h2 (unhide HA))
        subst h2
        clear HK1 HP1 HQ1 HZ1 h1
        go_wp2_with fail
        refine (unhide HC).mono ?_
        rintro y v1 ⟨rfl, hi1⟩
        dsimp only
        have HN := hide hi1
        clear HC hi1
        go_wp2_with fail
        go_roundw
        case rel => exact ⟨⟨_, rfl⟩, ⟨k + 1, by go_num, hlt, HN⟩⟩
        case measure => simp [intOf]; omega
      by_cases h3 : xk = 3
      · have HC := hide (unhide HQ1 v0 h3 (unhide HA))
        subst h3
        clear HK1 HP1 HQ1 HZ1 h1 h2
        go_wp2_with fail
        refine (unhide HC).mono ?_
        rintro y v1 ⟨rfl, hi1⟩
        dsimp only
        have HN := hide hi1
        clear HC hi1
        go_wp2_with fail
        go_roundw
        case rel => exact ⟨⟨_, rfl⟩, ⟨k + 1, by go_num, hlt, HN⟩⟩
        case measure => simp [intOf]; omega
      · have s1 : (xk == 1) = false := by simpa using h1
        have s2 : (xk == 2) = false := by simpa using h2
        have s3 : (xk == 3) = false := by simpa using h3
        have HN := hide (unhide HZ1 v0 h1 h2 h3 (unhide HA))
        clear HK1 HP1 HQ1 HZ1 h1 h2 h3 HA
        go_wp2_with fail
        go_roundw
        case rel => exact ⟨⟨_, rfl⟩, ⟨k + 1, by go_num, hlt, HN⟩⟩
        case measure => simp [intOf]; omega
    · obtain rfl : k = d.length := by omega
      have t1 : decide ((d.length : Int) < (d.length : Int)) = false := decide_eq_false (by omega)
      clear hk
      go_wp2_with fail
      exact bodyPost_end (v := .tuple #[]) (results_none Try.results38 _ _ _) rfl ⟨rfl, unhide HB⟩

end Go.Proofs.Ytjjdgfjlpkhgcaa
end

section
namespace Go.Proofs.Ytjjdgfjlpkhgcaa
open Region
section
variable {P : Program} {md : Region.Mode} {ops : Array Oper} {Q : Exit → Act → World → Prop} {S : World → Prop} {late : Nat → Bool}
def Wait2 (md : Region.Mode) (ops : Array Oper) (late : Nat → Bool) (listed : Array Bool) (i : Nat) : Prop := ∀ (j : Nat) (oj : Oper), ops[j]? = some oj → late j = true → listed.getD j false = true ∨ reach md ops ops.size j i = true
def wait2B (md : Region.Mode) (ops : Array Oper) (late : Nat → Bool) (listed : Array Bool) (i : Nat) : Bool := (List.range ops.size).all fun j => !late j || (listed.getD j false || reach md ops ops.size j i)
theorem wait2_spec {listed : Array Bool} {i : Nat} (h : wait2B md ops late listed i = true) : Wait2 md ops late listed i := fun j oj hj hl => by
  have := List.all_eq_true.1 h j (List.mem_range.2 (Array.getElem?_eq_some_iff.1 hj).1)
  rw [hl, Bool.not_true, Bool.false_or, Bool.or_eq_true] at this
  exact this
theorem getD_more {listed : Array Bool} {j k : Nat} (h : listed.getD k false = true) : (listed.setIfInBounds j true).getD k false = true := by
  by_cases hjk : j = k
  · subst hjk
    have hl : j < listed.size := by
      rcases Nat.lt_or_ge j listed.size with h' | h'
      · exact h'
      · simp [Array.getElem?_eq_none h'] at h
    simp [hl]
  · simpa [hjk] using h
theorem anyL_first2 {i : Nat} {oi : Oper} {v : Value} (hi : ops[i]? = some oi) (hsel : ∀ (j : Nat) (o : Oper) cs b, ops[j]? = some o → o.op ≠ .select cs b)
    (hQ : ∀ c a w, Q (.panic c) (a.put oi.dst v) w → Q (.panic c) a w) :
    ∀ (fuel : Nat) (listed : Array Bool) (a : Act) (w : World), Wait2 md ops late listed i → Closed md ops listed →
      (∀ j oj, ops[j]? = some oj → j ≠ i → listed.getD j true = false → (∀ e ∈ oj.after, Region.binds md e = true → e.on ≠ i) → oi.apart ops oj = true) →
      i ∈ Region.ready md ops listed → YieldsIf P ops S oi v a → S w →
      anyL P md ops Q S late fuel (listed.setIfInBounds i true) (a.put oi.dst v) w → anyL P md ops Q S late (fuel + 1) listed a w
  | fuel, listed, a, w, hw, hc, hfree, hr, hy, hS, H => by
    refine ⟨fun h => (by rw [h] at hr; cases hr), fun j hj => ?_⟩
    by_cases hji : j = i
    · subst hji; exact hy.wpOp hi hS ⟨fun _ => hS, H⟩
    · obtain ⟨hjun, oj, hoj, hall⟩ := mem_ready.1 hj
      have hni : listed.getD i false = true → False := fun h1 => by
        have h0 := (mem_ready.1 hr).1
        rcases Nat.lt_or_ge i listed.size with h' | h'
        · simp [h'] at h0 h1; rw [h0] at h1; cases h1
        · simp [Array.getElem?_eq_none h'] at h1
      have hnj : listed.getD j false = true → False := fun h1 => by
        rcases Nat.lt_or_ge j listed.size with h' | h'
        · simp [h'] at hjun h1; rw [hjun] at h1; cases h1
        · simp [Array.getElem?_eq_none h'] at h1
      have hnot : ∀ e ∈ oj.after, Region.binds md e = true → e.on ≠ i := fun e he hb heq => hni (by rw [← heq]; exact hall e he hb)
      have hlate : late j = false := by
        cases hl : late j with
        | false => rfl
        | true =>
          rcases hw j oj hoj hl with h1 | h1
          · exact (hnj h1).elim
          · exact (hni (reach_listed hc _ j oj hoj hall h1)).elim
      match fuel, H with
      | 0, H =>
        have := ready_mono hj hji
        rw [H.1] at this
        cases this
      | fuel + 1, H =>
        have h2 := wpOp_putIf hoj (hfree j oj hoj hji hjun hnot) (fun cs b => hsel i oi cs b hi) (fun cs b => hsel j oj cs b hoj) hQ hy (H.2 j (ready_mono hj hji))
        refine wpOp_mono (fun a' w' h3 => ⟨h3.2.1, anyL_first2 hi hsel hQ fuel (listed.setIfInBounds j true) a' w' (fun k ok hk hl => (hw k ok hk hl).imp getD_more id) (closed_set hc hj) ?_ (ready_mono hr (Ne.symm hji)) h3.1 (h3.2.1 hlate) ?_⟩) h2
        · intro k ok hk hki hun hno
          refine hfree k ok hk hki ?_ hno
          by_cases hjk : j = k
          · subst hjk; exact hjun
          · rw [getD_set_ne true hjk] at hun; exact hun
        · rw [Array.setIfInBounds_comm _ _ hji]
          exact h3.2.2
theorem anyL_take2 {i : Nat} {oi : Oper} {v : Value} {fuel : Nat} {listed : Array Bool} {a : Act} {w : World} (hi : ops[i]? = some oi) (hs : Region.noSelect ops = true) (hf : Region.free md ops listed i = true)
    (hr : (Region.ready md ops listed).contains i = true) (hw : (wait2B md ops late listed i && closedB md ops listed) = true) (hQ : ∀ c a w, Q (.panic c) (a.put oi.dst v) w → Q (.panic c) a w) (hy : YieldsIf P ops S oi v a) (hS : S w)
    (h : anyL P md ops Q S late fuel (listed.setIfInBounds i true) (a.put oi.dst v) w) : anyL P md ops Q S late (fuel + 1) listed a w := by
  rw [Bool.and_eq_true] at hw
  exact anyL_first2 hi (Region.noSelect_spec hs) hQ fuel listed a w (wait2_spec hw.1) (closed_of hw.2) (Region.free_spec hi hf) (by simpa using hr) hy hS h
end
end Go.Proofs.Ytjjdgfjlpkhgcaa
end

section
namespace Go.Proofs.Ytjjdgfjlpkhgcaa
open Go.ChangeShapes Go.WideShapes Go.ChangeAt Go.RowKit
attribute [local go_sem] Oper.semAt_some

def frN (o : Dop) : Nat := if o.k = 1 ∨ o.k = 3 then o.n.toNat else 0
def toN (o : Dop) : Nat := if o.k = 1 then o.n.toNat else if o.k = 2 then o.t.length else 0
def frD (d : List Dop) : Nat := (d.map frN).sum
def toD (d : List Dop) : Nat := (d.map toN).sum
theorem sumD_take (f : Dop → Nat) (d : List Dop) {k : Nat} (hk : k < d.length) : ((d.take (k + 1)).map f).sum = ((d.take k).map f).sum + f (d.getD k opZ) := by
  rw [List.take_add_one, List.getElem?_eq_getElem hk, Option.toList_some, List.map_append, List.sum_append]
  simp [List.getD_eq_getElem?_getD, List.getElem?_eq_getElem hk]
def satD (n : Nat) : Nat := min n 268435457
set_option maxRecDepth 100000 in
theorem moreI_at (z y M : Int) (w : World) (h0 : 0 ≤ z) (h1 : z ≤ 268435457) (h2 : 0 ≤ y) (hM : M = min (z + min y 268435457) 268435457) : Calls Try.prog 79 #[.int .i64 z, .int .i64 y] w fun e w' => e = .returned (.int .i64 M) ∧ w' = w := by
  have HM := hide hM
  have hw : wrap64 (z + min y 268435457) = z + min y 268435457 := wrapD _ (by omega) (by omega)
  by_cases h3 : y ≤ 268435457
  · rw [Int.min_eq_left h3] at hw
    have H := hide (And.intro h0 (And.intro h1 (And.intro h2 h3)))
    clear hM h0 h1 h2
    go_enter Try.func79, Try.ntmps79
    go_wp2_with fail
    all_goals
      refine bodyPost_ret (results_tmp rfl _ _ _) rfl ⟨?_, rfl⟩
      have := unhide HM
      have := unhide H
      exact congrArg (fun x => Ending.returned (.int .i64 x)) (by omega)
  · have h3' : 268435457 < y := by omega
    rw [Int.min_eq_right (by omega)] at hw
    have H := hide (And.intro h0 (And.intro h1 (And.intro h2 h3)))
    clear hM h0 h1 h2 h3
    go_enter Try.func79, Try.ntmps79
    go_wp2_with fail
    all_goals
      refine bodyPost_ret (results_tmp rfl _ _ _) rfl ⟨?_, rfl⟩
      have := unhide HM
      have := unhide H
      exact congrArg (fun x => Ending.returned (.int .i64 x)) (by omega)
theorem more_at (s n : Nat) (w : World) (hs : s ≤ 268435457) : Calls Try.prog 79 #[.int .i64 (s : Int), .int .i64 (n : Int)] w fun y w' => y = .returned (.int .i64 (satD (s + n) : Int)) ∧ w' = w :=
  moreI_at (s : Int) (n : Int) _ w (by omega) (by omega) (by omega) (by unfold satD; omega)
/-- sizes in a block of their own -/
def IsZ (X : World) (g : Nat) (f t : Nat) : Prop := Cls X g 73 #[.int .i64 (f : Int), .int .i64 (t : Int)]
theorem IsZ.cells {X : World} {g f t : Nat} (h : IsZ X g f t) : X.cell? ⟨g, 0, none⟩ = some (.int .i64 (f : Int)) ∧ X.cell? ⟨g, 1, none⟩ = some (.int .i64 (t : Int)) ∧ X.frozen? ⟨g, 0, none⟩ = false ∧ X.frozen? ⟨g, 1, none⟩ = false :=
  ⟨(Cls.cell h 0).trans rfl, (Cls.cell h 1).trans rfl, Cls.frozen h 0, Cls.frozen h 1⟩
theorem IsZ.set0 {X : World} {g f t : Nat} (h : IsZ X g f t) (n : Nat) : IsZ (X.setCell ⟨g, 0, none⟩ (.int .i64 (n : Int))) g n t := by
  show Cls _ _ _ _
  have := Cls.set h 0 (.int .i64 (n : Int))
  simpa only [List.setIfInBounds_toArray, List.set_cons_zero, List.set_cons_succ] using this
theorem IsZ.set1 {X : World} {g f t : Nat} (h : IsZ X g f t) (n : Nat) : IsZ (X.setCell ⟨g, 1, none⟩ (.int .i64 (n : Int))) g f n := by
  show Cls _ _ _ _
  have := Cls.set h 1 (.int .i64 (n : Int))
  simpa only [List.setIfInBounds_toArray, List.set_cons_zero, List.set_cons_succ] using this
set_option maxRecDepth 100000 in
set_option maxHeartbeats 1000000 in
theorem zput_at (g f t n : Nat) (s : ByteArray) (X : World) (h : IsZ X g f t) (ht : t ≤ 268435457) (hs : s.size = n) :
    Calls Try.prog 58 #[.pointer (some ⟨g, 0, none⟩), .string s] X fun y X' => y = .returned (.tuple #[]) ∧ IsZ X' g f (satD (t + n)) ∧ Below g X X' := by
  have HM := hide (more_at t n X ht)
  obtain ⟨c0, c1, f0, f1⟩ := h.cells
  have HR := hide (h.set1 (satD (t + n)))
  have HB := hide ((Below.refl g X).setCell (p := ⟨g, 1, none⟩) (Nat.le_refl _) (.int .i64 (satD (t + n) : Int)))
  generalize satD (t + n) = M at *
  clear h ht c0 f0
  go_enter Try.func58, Try.ntmps58
  go_wp2_with fail
  refine (unhide HM).mono ?_
  rintro y X' ⟨rfl, rfl⟩
  dsimp only
  clear HM
  go_wp2_with fail
  exact bodyPost_end (v := .tuple #[]) (results_none Try.results58 _ _ _) rfl ⟨rfl, unhide HR, unhide HB⟩
set_option maxRecDepth 100000 in
set_option maxHeartbeats 1000000 in
theorem zdrop_at (g f t n : Nat) (X : World) (h : IsZ X g f t) (ht : f ≤ 268435457) :
    Calls Try.prog 59 #[.pointer (some ⟨g, 0, none⟩), .int .i64 (n : Int)] X fun y X' => y = .returned (.tuple #[]) ∧ IsZ X' g (satD (f + n)) t ∧ Below g X X' := by
  have HM := hide (more_at f n X ht)
  obtain ⟨c0, c1, f0, f1⟩ := h.cells
  have HR := hide (h.set0 (satD (f + n)))
  have HB := hide ((Below.refl g X).setCell (p := ⟨g, 0, none⟩) (Nat.le_refl _) (.int .i64 (satD (f + n) : Int)))
  generalize satD (f + n) = M at *
  clear h ht c1 f1
  go_enter Try.func59, Try.ntmps59
  go_wp2_with fail
  refine (unhide HM).mono ?_
  rintro y X' ⟨rfl, rfl⟩
  dsimp only
  clear HM
  go_wp2_with fail
  exact bodyPost_end (v := .tuple #[]) (results_none Try.results59 _ _ _) rfl ⟨rfl, unhide HR, unhide HB⟩
set_option maxRecDepth 100000 in
set_option maxHeartbeats 2000000 in
theorem zkeep_at (g f t n : Nat) (X : World) (h : IsZ X g f t) (hf : f ≤ 268435457) (ht : t ≤ 268435457) :
    Calls Try.prog 57 #[.pointer (some ⟨g, 0, none⟩), .int .i64 (n : Int)] X fun y X' => y = .returned (.tuple #[]) ∧ IsZ X' g (satD (f + n)) (satD (t + n)) ∧ Below g X X' := by
  have HM := hide fun (Y : World) => more_at f n Y hf
  have HN := hide fun (Y : World) => more_at t n Y ht
  have hz : IsZ X.drew g f t := h
  obtain ⟨c0, c1, f0, f1⟩ := hz.cells
  obtain ⟨_, e1, _, k1⟩ := (hz.set0 (satD (f + n))).cells
  have HS0 := hide (And.intro c0 c1)
  have HR := hide ((hz.set0 (satD (f + n))).set1 (satD (t + n)))
  have HB := hide ((((Below.refl g X).drew).setCell (p := ⟨g, 0, none⟩) (Nat.le_refl _) (.int .i64 (satD (f + n) : Int))).setCell (p := ⟨g, 1, none⟩) (Nat.le_refl _) (.int .i64 (satD (t + n) : Int)))
  generalize satD (f + n) = M at *
  generalize satD (t + n) = M' at *
  clear h hf ht hz
  go_enter Try.func57, Try.ntmps57
  go_wp2_with fail
  refine regionL (S := fun w' => w'.cell? ⟨g, 0, none⟩ = some (.int .i64 (f : Int)) ∧ w'.cell? ⟨g, 1, none⟩ = some (.int .i64 (t : Int))) (fun i => i == 1 || i == 16 || i == 17 || i == 18 || i == 19) (by kernel_rfl) ?_
  generalize X.drew = Z at *
  refine anyL_free (i := 1) (v := ?vzkf0) rfl (by kernel_rfl) (by kernel_rfl) (by kernel_rfl) rfl (fun _ _ _ h => h) (Or.inl ⟨by rfl, ?hzkf0⟩) ?_
  case hzkf0 => (intro w hSw; go_simp) <;> with_reducible rfl
  simp only [Act.put, List.getElem_toArray, List.getElem_cons_zero, List.getElem_cons_succ, List.setIfInBounds_toArray, List.set_cons_zero, List.set_cons_succ]
  refine anyL_take2 (i := 0) (v := ?vzk1) rfl (by kernel_rfl) (by kernel_rfl) (by kernel_rfl) (by kernel_rfl) (fun _ _ _ h => h) (Or.inl ⟨by rfl, ?hzk1⟩) (unhide HS0) ?_
  case hzk1 => (intro w hSw; (try dsimp only at hSw); go_simp) <;> with_reducible rfl
  simp only [Act.put, List.getElem_toArray, List.getElem_cons_zero, List.setIfInBounds_toArray, List.set_cons_zero, List.set_cons_succ]
  refine anyL_take2 (i := 2) (v := ?vzk2) rfl (by kernel_rfl) (by kernel_rfl) (by kernel_rfl) (by kernel_rfl) (fun _ _ _ h => h) (Or.inl ⟨by rfl, ?hzk2⟩) (unhide HS0) ?_
  case hzk2 => (intro w hSw; (try dsimp only at hSw); go_simp) <;> with_reducible rfl
  simp only [Act.put, List.getElem_toArray, List.getElem_cons_zero, List.getElem_cons_succ, List.setIfInBounds_toArray, List.set_cons_zero, List.set_cons_succ]
  refine anyL_take2 (i := 3) (v := ?vzk3) rfl (by kernel_rfl) (by kernel_rfl) (by kernel_rfl) (by kernel_rfl) (fun _ _ _ h => h) (Or.inl ⟨by rfl, ?hzk3⟩) (unhide HS0) ?_
  case hzk3 => (intro w hSw; (try dsimp only at hSw); go_simp) <;> with_reducible rfl
  simp only [Act.put, List.getElem_toArray, List.getElem_cons_zero, List.getElem_cons_succ, List.setIfInBounds_toArray, List.set_cons_zero, List.set_cons_succ]
  refine anyL_take2 (i := 4) (v := ?vzk4) rfl (by kernel_rfl) (by kernel_rfl) (by kernel_rfl) (by kernel_rfl) (fun _ _ _ h => h) (Or.inl ⟨by rfl, ?hzk4⟩) (unhide HS0) ?_
  case hzk4 => (intro w hSw; (try dsimp only at hSw); go_simp) <;> with_reducible rfl
  simp only [Act.put, List.getElem_toArray, List.getElem_cons_zero, List.getElem_cons_succ, List.setIfInBounds_toArray, List.set_cons_zero, List.set_cons_succ]
  refine anyL_take2 (i := 5) (v := ?vzk5) rfl (by kernel_rfl) (by kernel_rfl) (by kernel_rfl) (by kernel_rfl) (fun _ _ _ h => h) (Or.inl ⟨by rfl, ?hzk5⟩) (unhide HS0) ?_
  case hzk5 => (intro w hSw; (try dsimp only at hSw); go_simp) <;> with_reducible rfl
  simp only [Act.put, List.getElem_toArray, List.getElem_cons_zero, List.getElem_cons_succ, List.setIfInBounds_toArray, List.set_cons_zero, List.set_cons_succ]
  refine anyL_take2 (i := 6) (v := ?vzk6) rfl (by kernel_rfl) (by kernel_rfl) (by kernel_rfl) (by kernel_rfl) (fun _ _ _ h => h) (Or.inl ⟨by rfl, ?hzk6⟩) (unhide HS0) ?_
  case hzk6 => (intro w hSw; (try dsimp only at hSw); go_simp) <;> with_reducible rfl
  simp only [Act.put, List.getElem_toArray, List.getElem_cons_zero, List.getElem_cons_succ, List.setIfInBounds_toArray, List.set_cons_zero, List.set_cons_succ]
  refine anyL_take2 (i := 8) (v := ?vzk7) rfl (by kernel_rfl) (by kernel_rfl) (by kernel_rfl) (by kernel_rfl) (fun _ _ _ h => h) (Or.inl ⟨by rfl, ?hzk7⟩) (unhide HS0) ?_
  case hzk7 => (intro w hSw; (try dsimp only at hSw); go_simp) <;> with_reducible rfl
  simp only [Act.put, List.getElem_toArray, List.getElem_cons_zero, List.getElem_cons_succ, List.setIfInBounds_toArray, List.set_cons_zero, List.set_cons_succ]
  refine anyL_take2 (i := 9) (v := ?vzk8) rfl (by kernel_rfl) (by kernel_rfl) (by kernel_rfl) (by kernel_rfl) (fun _ _ _ h => h) (Or.inl ⟨by rfl, ?hzk8⟩) (unhide HS0) ?_
  case hzk8 => (intro w hSw; (try dsimp only at hSw); go_simp) <;> with_reducible rfl
  simp only [Act.put, List.getElem_toArray, List.getElem_cons_zero, List.getElem_cons_succ, List.setIfInBounds_toArray, List.set_cons_zero, List.set_cons_succ]
  refine anyL_take2 (i := 10) (v := ?vzk9) rfl (by kernel_rfl) (by kernel_rfl) (by kernel_rfl) (by kernel_rfl) (fun _ _ _ h => h) (Or.inl ⟨by rfl, ?hzk9⟩) (unhide HS0) ?_
  case hzk9 => (intro w hSw; (try dsimp only at hSw); go_simp) <;> with_reducible rfl
  simp only [Act.put, List.getElem_toArray, List.getElem_cons_zero, List.getElem_cons_succ, List.setIfInBounds_toArray, List.set_cons_zero, List.set_cons_succ]
  refine anyL_take2 (i := 11) (v := ?vzk10) rfl (by kernel_rfl) (by kernel_rfl) (by kernel_rfl) (by kernel_rfl) (fun _ _ _ h => h) (Or.inl ⟨by rfl, ?hzk10⟩) (unhide HS0) ?_
  case hzk10 => (intro w hSw; (try dsimp only at hSw); go_simp) <;> with_reducible rfl
  simp only [Act.put, List.getElem_toArray, List.getElem_cons_zero, List.getElem_cons_succ, List.setIfInBounds_toArray, List.set_cons_zero, List.set_cons_succ]
  refine anyL_take2 (i := 12) (v := ?vzk11) rfl (by kernel_rfl) (by kernel_rfl) (by kernel_rfl) (by kernel_rfl) (fun _ _ _ h => h) (Or.inl ⟨by rfl, ?hzk11⟩) (unhide HS0) ?_
  case hzk11 => (intro w hSw; (try dsimp only at hSw); go_simp) <;> with_reducible rfl
  simp only [Act.put, List.getElem_toArray, List.getElem_cons_zero, List.getElem_cons_succ, List.setIfInBounds_toArray, List.set_cons_zero, List.set_cons_succ]
  refine anyL_ready (rs := [7]) (by kernel_rfl) (by simp) ?_
  refine AllL.cons rfl (fun K hK => ?_) AllL.nil
  go_simp
  refine (unhide HM _).mono ?_
  rintro e w' ⟨rfl, rfl⟩
  refine unhide hK _ _ (fun _ => unhide HS0) ?_
  clear hK K
  refine anyL_ready (rs := [13]) (by kernel_rfl) (by simp) ?_
  refine AllL.cons rfl (fun K hK => ?_) AllL.nil
  go_simp
  refine (unhide HN _).mono ?_
  rintro e w' ⟨rfl, rfl⟩
  refine unhide hK _ _ (fun _ => unhide HS0) ?_
  clear hK K
  refine anyL_take2 (i := 14) (v := ?vzk12) rfl (by kernel_rfl) (by kernel_rfl) (by kernel_rfl) (by kernel_rfl) (fun _ _ _ h => h) (Or.inl ⟨by rfl, ?hzk12⟩) (unhide HS0) ?_
  case hzk12 => (intro w hSw; (try dsimp only at hSw); go_simp) <;> with_reducible rfl
  simp only [Act.put, List.getElem_toArray, List.getElem_cons_zero, List.getElem_cons_succ, List.setIfInBounds_toArray, List.set_cons_zero, List.set_cons_succ]
  refine anyL_take2 (i := 15) (v := ?vzk13) rfl (by kernel_rfl) (by kernel_rfl) (by kernel_rfl) (by kernel_rfl) (fun _ _ _ h => h) (Or.inl ⟨by rfl, ?hzk13⟩) (unhide HS0) ?_
  case hzk13 => (intro w hSw; (try dsimp only at hSw); go_simp) <;> with_reducible rfl
  simp only [Act.put, List.getElem_toArray, List.getElem_cons_zero, List.getElem_cons_succ, List.setIfInBounds_toArray, List.set_cons_zero, List.set_cons_succ]
  refine anyL_ready (rs := [16]) (by kernel_rfl) (by simp) ?_
  refine AllL.cons rfl (fun K hK => ?_) AllL.nil
  go_simp
  refine unhide hK _ _ (fun h => by cases h) ?_
  clear hK K
  refine anyL_free (i := 17) (v := ?vzkf14) rfl (by kernel_rfl) (by kernel_rfl) (by kernel_rfl) rfl (fun _ _ _ h => h) (Or.inl ⟨by rfl, ?hzkf14⟩) ?_
  case hzkf14 => (intro w hSw; go_simp) <;> with_reducible rfl
  simp only [Act.put, List.getElem_toArray, List.getElem_cons_zero, List.getElem_cons_succ, List.setIfInBounds_toArray, List.set_cons_zero, List.set_cons_succ]
  refine anyL_free (i := 18) (v := ?vzkf15) rfl (by kernel_rfl) (by kernel_rfl) (by kernel_rfl) rfl (fun _ _ _ h => h) (Or.inl ⟨by rfl, ?hzkf15⟩) ?_
  case hzkf15 => (intro w hSw; go_simp) <;> with_reducible rfl
  simp only [Act.put, List.getElem_toArray, List.getElem_cons_zero, List.getElem_cons_succ, List.setIfInBounds_toArray, List.set_cons_zero, List.set_cons_succ]
  refine anyL_ready (rs := [19]) (by kernel_rfl) (by simp) ?_
  refine AllL.cons rfl (fun K hK => ?_) AllL.nil
  go_simp
  refine unhide hK _ _ (fun h => by cases h) ?_
  clear hK K
  refine anyL_done (by kernel_rfl) ?_ _
  exact bodyPost_end (v := .tuple #[]) (results_none Try.results57 _ _ _) rfl ⟨rfl, unhide HR, unhide HB⟩

end Go.Proofs.Ytjjdgfjlpkhgcaa
end
