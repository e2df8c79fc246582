/- Layer 13: each, of any three functions that keep what is said. · A region that draws its order: what is listed already need not wait. -/
import Derived.Test.YtkdnanlgkedjgabDoorDn36
import Derived.Test.YtkdnanlgkedjgabDoorDn32

section
namespace Go.Proofs.YtkdnanlgkedjgabDoor
open Go.ChangeShapes Go.WideShapes Go.ChangeAt Go.RowKit
attribute [local go_sem] Oper.semAt_some

set_option maxRecDepth 100000 in
set_option maxHeartbeats 4000000 in
theorem each_at (a : Option Addr) (c B : Nat) (d : List Dop) (w : World) (fk fp fd : Nat) (rv : Value) (I : Nat → World → Prop)
    (ek : ∀ args w, (callFunc fk args).run Tryd.prog w = .ok (.enter fk args) w) (ep : ∀ args w, (callFunc fp args).run Tryd.prog w = .ok (.enter fp args) w) (ed : ∀ args w, (callFunc fd args).run Tryd.prog w = .ok (.enter fd args) w)
    (hd : ∀ X, Below B w X → IsO X a d) (hI : ∀ k X, I k X → Below B w X) (hA : ∀ k X o, I k X → I k (X.alloc o)) (h0 : I 0 w) (hl : d.length ≤ 4611686018427387904)
    (hk : ∀ k X, k < d.length → (d.getD k opZ).k = 1 → I k X → Calls Tryd.prog fk #[rv, .int .i64 (d.getD k opZ).n] X fun y X' => y = .returned (.tuple #[]) ∧ I (k + 1) X')
    (hp : ∀ k X, k < d.length → (d.getD k opZ).k = 2 → I k X → Calls Tryd.prog fp #[rv, .string (strOfNums (d.getD k opZ).t)] X fun y X' => y = .returned (.tuple #[]) ∧ I (k + 1) X')
    (hq : ∀ k X, k < d.length → (d.getD k opZ).k = 3 → I k X → Calls Tryd.prog fd #[rv, .int .i64 (d.getD k opZ).n] X fun y X' => y = .returned (.tuple #[]) ∧ I (k + 1) X')
    (hz : ∀ k X, k < d.length → (d.getD k opZ).k ≠ 1 → (d.getD k opZ).k ≠ 2 → (d.getD k opZ).k ≠ 3 → I k X → I (k + 1) X) :
    Calls Tryd.prog 18 #[.slice a d.length c, .func (.func fk) #[rv] #[], .func (.func fp) #[rv] #[], .func (.func fd) #[rv] #[]] w fun y w' => y = .returned (.tuple #[]) ∧ I d.length w' := by
  have HO := hide hd
  have HI := hide hI
  have HAl := hide hA
  have HK := hide hk
  have HP := hide hp
  have HQ := hide hq
  have HZ := hide hz
  have H0 := hide h0
  clear hd hI hA hk hp hq hz h0
  go_enter Tryd.func18, Tryd.ntmps18
  go_wp2_with fail
  go_loopw [9, 12] (fun v9 v12 wx => (∃ z, v9 = z) ∧ (∃ k : Nat, v12 = .int .i64 (k : Int) ∧ k ≤ d.length ∧ Hid (I k wx))) (fun _ v12 _ => d.length - (intOf v12).toNat)
  case atStart => exact ⟨⟨_, rfl⟩, ⟨0, rfl, Nat.zero_le _, H0⟩⟩
  case round =>
    clear H0
    obtain ⟨⟨z1, rfl⟩, ⟨k, rfl, hk, HB⟩⟩ := hrel
    by_cases hlt : k < d.length
    · have t1 : decide ((k : Int) < (d.length : Int)) = true := decide_eq_true (by omega)
      obtain ⟨g, off, rfl, hg, c0, c1, c2⟩ := (unhide HO wr (unhide HI k wr (unhide HB))).three hlt
      have HK1 := hide fun (X : World) => unhide HK k X hlt
      have HP1 := hide fun (X : World) => unhide HP k X hlt
      have HQ1 := hide fun (X : World) => unhide HQ k X hlt
      have HZ1 := hide fun (X : World) => unhide HZ k X hlt
      generalize d.getD k opZ = x at *
      obtain ⟨xk, xn, xt⟩ := x
      dsimp only at c0 c1 c2 HK1 HP1 HQ1 HZ1
      obtain ⟨d0, d1, d2⟩ := three_nwD wr (.int .i64 xk) (.int .i64 xn) (.string (strOfNums xt)) (t := 41)
      have HA := hide (unhide HAl k wr (.cells #[.int .i64 xk, .int .i64 xn, .string (strOfNums xt)] 41) (unhide HB))
      generalize strOfNums xt = st at *
      clear HB HK HP HQ HZ
      go_upto_region 3 with fail
      clear c0 c1 c2
      generalize wr.alloc (.cells #[.int .i64 xk, .int .i64 xn, .string st] 41) = v0 at *
      generalize wr.heap.size = gb at *
      by_cases h1 : xk = 1
      · have HC := hide (unhide HK1 v0 h1 (unhide HA))
        subst h1
        clear HK1 HP1 HQ1 HZ1
        go_wp2_with fail
        refine (unhide HC).mono ?_
        rintro y v1 ⟨rfl, hi1⟩
        dsimp only
        have HN := hide hi1
        clear HC hi1
        go_wp2_with fail
        go_roundw
        case rel => exact ⟨⟨_, rfl⟩, ⟨k + 1, by go_num, hlt, HN⟩⟩
        case measure => simp [intOf]; omega
      by_cases h2 : xk = 2
      · have HC := hide (unhide HP1 v0 h2 (unhide HA))
        subst h2
        clear HK1 HP1 HQ1 HZ1 h1
        go_wp2_with fail
        refine (unhide HC).mono ?_
        rintro y v1 ⟨rfl, hi1⟩
        dsimp only
        have HN := hide hi1
        clear HC hi1
        go_wp2_with fail
        go_roundw
        case rel => exact ⟨⟨_, rfl⟩, ⟨k + 1, by go_num, hlt, HN⟩⟩
        case measure => simp [intOf]; omega
      by_cases h3 : xk = 3
      · have HC := hide (unhide HQ1 v0 h3 (unhide HA))
        subst h3
        clear HK1 HP1 HQ1 HZ1 h1 h2
        go_wp2_with fail
        refine (unhide HC).mono ?_
        rintro y v1 ⟨rfl, hi1⟩
        dsimp only
        have HN := hide hi1
        clear HC hi1
        go_wp2_with fail
        go_roundw
        case rel => exact ⟨⟨_, rfl⟩, ⟨k + 1, by go_num, hlt, HN⟩⟩
        case measure => simp [intOf]; omega
      · have s1 : (xk == 1) = false := by simpa using h1
        have s2 : (xk == 2) = false := by simpa using h2
        have s3 : (xk == 3) = false := by simpa using h3
        have HN := hide (unhide HZ1 v0 h1 h2 h3 (unhide HA))
        clear HK1 HP1 HQ1 HZ1 h1 h2 h3 HA
        go_wp2_with fail
        go_roundw
        case rel => exact ⟨⟨_, rfl⟩, ⟨k + 1, by go_num, hlt, HN⟩⟩
        case measure => simp [intOf]; omega
    · obtain rfl : k = d.length := by omega
      have t1 : decide ((d.length : Int) < (d.length : Int)) = false := decide_eq_false (by omega)
      clear hk
      go_wp2_with fail
      exact bodyPost_end (v := .tuple #[]) (results_none Tryd.results18 _ _ _) rfl ⟨rfl, unhide HB⟩

end Go.Proofs.YtkdnanlgkedjgabDoor
end

section
namespace Go.Proofs.YtkdnanlgkedjgabDoor
open Region
section
variable {P : Program} {md : Region.Mode} {ops : Array Oper} {Q : Exit → Act → World → Prop} {S : World → Prop} {late : Nat → Bool}
def Wait2 (md : Region.Mode) (ops : Array Oper) (late : Nat → Bool) (listed : Array Bool) (i : Nat) : Prop := ∀ (j : Nat) (oj : Oper), ops[j]? = some oj → late j = true → listed.getD j false = true ∨ reach md ops ops.size j i = true
def wait2B (md : Region.Mode) (ops : Array Oper) (late : Nat → Bool) (listed : Array Bool) (i : Nat) : Bool := (List.range ops.size).all fun j => !late j || (listed.getD j false || reach md ops ops.size j i)
theorem wait2_spec {listed : Array Bool} {i : Nat} (h : wait2B md ops late listed i = true) : Wait2 md ops late listed i := fun j oj hj hl => by
  have := List.all_eq_true.1 h j (List.mem_range.2 (Array.getElem?_eq_some_iff.1 hj).1)
  rw [hl, Bool.not_true, Bool.false_or, Bool.or_eq_true] at this
  exact this
theorem getD_more {listed : Array Bool} {j k : Nat} (h : listed.getD k false = true) : (listed.setIfInBounds j true).getD k false = true := by
  by_cases hjk : j = k
  · subst hjk
    have hl : j < listed.size := by
      rcases Nat.lt_or_ge j listed.size with h' | h'
      · exact h'
      · simp [Array.getElem?_eq_none h'] at h
    simp [hl]
  · simpa [hjk] using h
theorem anyL_first2 {i : Nat} {oi : Oper} {v : Value} (hi : ops[i]? = some oi) (hsel : ∀ (j : Nat) (o : Oper) cs b, ops[j]? = some o → o.op ≠ .select cs b)
    (hQ : ∀ c a w, Q (.panic c) (a.put oi.dst v) w → Q (.panic c) a w) :
    ∀ (fuel : Nat) (listed : Array Bool) (a : Act) (w : World), Wait2 md ops late listed i → Closed md ops listed →
      (∀ j oj, ops[j]? = some oj → j ≠ i → listed.getD j true = false → (∀ e ∈ oj.after, Region.binds md e = true → e.on ≠ i) → oi.apart ops oj = true) →
      i ∈ Region.ready md ops listed → YieldsIf P ops S oi v a → S w →
      anyL P md ops Q S late fuel (listed.setIfInBounds i true) (a.put oi.dst v) w → anyL P md ops Q S late (fuel + 1) listed a w
  | fuel, listed, a, w, hw, hc, hfree, hr, hy, hS, H => by
    refine ⟨fun h => (by rw [h] at hr; cases hr), fun j hj => ?_⟩
    by_cases hji : j = i
    · subst hji; exact hy.wpOp hi hS ⟨fun _ => hS, H⟩
    · obtain ⟨hjun, oj, hoj, hall⟩ := mem_ready.1 hj
      have hni : listed.getD i false = true → False := fun h1 => by
        have h0 := (mem_ready.1 hr).1
        rcases Nat.lt_or_ge i listed.size with h' | h'
        · simp [h'] at h0 h1; rw [h0] at h1; cases h1
        · simp [Array.getElem?_eq_none h'] at h1
      have hnj : listed.getD j false = true → False := fun h1 => by
        rcases Nat.lt_or_ge j listed.size with h' | h'
        · simp [h'] at hjun h1; rw [hjun] at h1; cases h1
        · simp [Array.getElem?_eq_none h'] at h1
      have hnot : ∀ e ∈ oj.after, Region.binds md e = true → e.on ≠ i := fun e he hb heq => hni (by rw [← heq]; exact hall e he hb)
      have hlate : late j = false := by
        cases hl : late j with
        | false => rfl
        | true =>
          rcases hw j oj hoj hl with h1 | h1
          · exact (hnj h1).elim
          · exact (hni (reach_listed hc _ j oj hoj hall h1)).elim
      match fuel, H with
      | 0, H =>
        have := ready_mono hj hji
        rw [H.1] at this
        cases this
      | fuel + 1, H =>
        have h2 := wpOp_putIf hoj (hfree j oj hoj hji hjun hnot) (fun cs b => hsel i oi cs b hi) (fun cs b => hsel j oj cs b hoj) hQ hy (H.2 j (ready_mono hj hji))
        refine wpOp_mono (fun a' w' h3 => ⟨h3.2.1, anyL_first2 hi hsel hQ fuel (listed.setIfInBounds j true) a' w' (fun k ok hk hl => (hw k ok hk hl).imp getD_more id) (closed_set hc hj) ?_ (ready_mono hr (Ne.symm hji)) h3.1 (h3.2.1 hlate) ?_⟩) h2
        · intro k ok hk hki hun hno
          refine hfree k ok hk hki ?_ hno
          by_cases hjk : j = k
          · subst hjk; exact hjun
          · rw [getD_set_ne true hjk] at hun; exact hun
        · rw [Array.setIfInBounds_comm _ _ hji]
          exact h3.2.2
theorem anyL_take2 {i : Nat} {oi : Oper} {v : Value} {fuel : Nat} {listed : Array Bool} {a : Act} {w : World} (hi : ops[i]? = some oi) (hs : Region.noSelect ops = true) (hf : Region.free md ops listed i = true)
    (hr : (Region.ready md ops listed).contains i = true) (hw : (wait2B md ops late listed i && closedB md ops listed) = true) (hQ : ∀ c a w, Q (.panic c) (a.put oi.dst v) w → Q (.panic c) a w) (hy : YieldsIf P ops S oi v a) (hS : S w)
    (h : anyL P md ops Q S late fuel (listed.setIfInBounds i true) (a.put oi.dst v) w) : anyL P md ops Q S late (fuel + 1) listed a w := by
  rw [Bool.and_eq_true] at hw
  exact anyL_first2 hi (Region.noSelect_spec hs) hQ fuel listed a w (wait2_spec hw.1) (closed_of hw.2) (Region.free_spec hi hf) (by simpa using hr) hy hS h
end
end Go.Proofs.YtkdnanlgkedjgabDoor
end
