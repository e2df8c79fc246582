/- Layer 10: the document's To: its walk. · scan.take: its states, and what holds at each label. · scan.take: from the labels last and broken. -/
import Derived.Test.YteamaneompijkaaGreatDoorSo40
import Derived.Test.YteamaneompijkaaGreatDoorSo07
import Derived.Scope
import Derived.ScopeJumps
import Derived.WalkMore
namespace Go.Proofs.YteamaneompijkaaGreatDoor
open Go.ChangeShapes Go.WideShapes Go.ChangeAt Go.RowKit
set_option maxRecDepth 100000
set_option maxHeartbeats 8000000
section
attribute [local go_sem] Oper.semAt_some
theorem six_no (r t m : Int) (h : ¬ ((r = 1 ∨ r = 2 ∨ r = 3) ∧ (t = 1 ∨ t = 2 ∨ t = 3) ∧ (m = 1 ∨ m = 2 ∨ m = 3))) :
    decide (r < 1) = true ∨ (decide (r < 1) = false ∧ decide (r > 3) = true ∧ decide (3 < r) = true) ∨ (decide (r < 1) = false ∧ decide (r > 3) = false ∧ decide (3 < r) = false ∧ decide (t < 1) = true) ∨
    (decide (r < 1) = false ∧ decide (r > 3) = false ∧ decide (3 < r) = false ∧ decide (t < 1) = false ∧ decide (t > 3) = true ∧ decide (3 < t) = true) ∨
    (decide (r < 1) = false ∧ decide (r > 3) = false ∧ decide (3 < r) = false ∧ decide (t < 1) = false ∧ decide (t > 3) = false ∧ decide (3 < t) = false ∧ decide (m < 1) = true) ∨
    (decide (r < 1) = false ∧ decide (r > 3) = false ∧ decide (3 < r) = false ∧ decide (t < 1) = false ∧ decide (t > 3) = false ∧ decide (3 < t) = false ∧ decide (m < 1) = false ∧ decide (m > 3) = true ∧ decide (3 < m) = true) := by
  simp only [decide_eq_true_eq, decide_eq_false_iff_not]
  omega
theorem RTo10_at (a0 : Option Addr) (cap : Nat) (l : List Int) (r col t m : Int) (w : World) (hB : IsB w a0 cap l) (hl : l.length ≤ 600) :
    Calls Tryz.prog 24 #[.slice a0 l.length cap, .int .i64 r, .int .i64 col, .int .i64 t, .int .i64 m] w fun y w' =>
      y = .returned (.tuple #[.int .i64 (toP r col t m (EE l) : Int), .int .i64 (toR r col t m (EE l))]) ∧ Below w.heap.size w w' := by
  have hin := hB.2.2.2
  by_cases hrm : (r = 1 ∨ r = 2 ∨ r = 3) ∧ (t = 1 ∨ t = 2 ∨ t = 3) ∧ (m = 1 ∨ m = 2 ∨ m = 3)
  case neg =>
    have HV : Hid (toP r col t m (EE l) = 0 ∧ toR r col t m (EE l) = 3) := hide (by
      have : (isRu r && (isRu t && isRu m)) = false := by unfold isRu; simp; omega
      unfold toP toR
      rw [this]
      exact ⟨rfl, rfl⟩)
    have HT := hide (six_no r t m hrm)
    clear hrm hB hl hin
    go_enter Tryz.func24, Tryz.ntmps24
    rcases unhide HT with t1 | ⟨t1, t2, t3⟩ | ⟨t1, t2, t3, t4⟩ | ⟨t1, t2, t3, t4, t5, t6⟩ | ⟨t1, t2, t3, t4, t5, t6, t7⟩ | ⟨t1, t2, t3, t4, t5, t6, t7, t8, t9⟩
    all_goals
      go_wp2_with fail
      rw [(unhide HV).1, (unhide HV).2]
      refine bodyPost_ret (results_tmp2 rfl _ _ _) rfl ⟨rfl, Below.refl _ _⟩
  have t1 : decide (r < 1) = false := decide_eq_false (by omega)
  have t2 : decide (r > 3) = false := decide_eq_false (by omega)
  have t3 : decide (3 < r) = false := decide_eq_false (by omega)
  have t4 : decide (t < 1) = false := decide_eq_false (by omega)
  have t5 : decide (t > 3) = false := decide_eq_false (by omega)
  have t6 : decide (3 < t) = false := decide_eq_false (by omega)
  have t7 : decide (m < 1) = false := decide_eq_false (by omega)
  have t8 : decide (m > 3) = false := decide_eq_false (by omega)
  have t9 : decide (3 < m) = false := decide_eq_false (by omega)
  have hru : isRu r = true := by rcases hrm.1 with rfl | rfl | rfl <;> rfl
  have htu : isRu t = true := by rcases hrm.2.1 with rfl | rfl | rfl <;> rfl
  have hmu : isRu m = true := by rcases hrm.2.2 with rfl | rfl | rfl <;> rfl
  have HRM := hide hrm
  have HUU := hide (And.intro hru (And.intro htu hmu))
  clear hrm
  by_cases hneg : col < 0
  · have HV := hide (to_out hin hru htu hmu (.inl hneg))
    have t0 : decide (col < 0) = true := decide_eq_true hneg
    clear hneg hru htu hmu hin hB hl
    go_enter Tryz.func24, Tryz.ntmps24
    go_wp2_with fail
    rw [(unhide HV).1, (unhide HV).2]
    refine bodyPost_ret (results_tmp2 rfl _ _ _) rfl ⟨rfl, Below.refl _ _⟩
  have t0 : decide (col < 0) = false := decide_eq_false hneg
  have HS1 := hide (RSize7_at a0 cap l r w hB (by omega) (unhide HRM).1)
  by_cases hout : (szE r l : Int) < col
  · have HV := hide (to_out hin hru htu hmu (.inr hout))
    have u1 : decide (col > (szE r l : Int)) = true := decide_eq_true hout
    have u2 : decide ((szE r l : Int) < col) = true := decide_eq_true hout
    clear hneg hru htu hmu hin hB hl hout
    go_enter Tryz.func24, Tryz.ntmps24
    go_wp2_with fail
    refine (unhide HS1).mono ?_
    rintro y w1 ⟨rfl, x1⟩
    dsimp only
    go_wp2_with fail
    rw [(unhide HV).1, (unhide HV).2]
    refine bodyPost_ret (results_tmp2 rfl _ _ _) rfl ⟨rfl, x1⟩
  have u1 : decide (col > (szE r l : Int)) = false := decide_eq_false hout
  have u2 : decide ((szE r l : Int) < col) = false := decide_eq_false hout
  obtain ⟨hR, hP0, hPn⟩ := to_byP (t := t) (col := col) hin hru htu hmu
  have hne2 : ¬ toR r col 1 m (EE l) = 2 := by
    have h1 := to_ru hru (rfl : isRu 1 = true) hmu col (EE l)
    rw [h1.1]
    have hp : isPl r col (EE l) = true := (isPl_iff (inc_EE hin r)).2 ⟨by omega, by rw [by_last hru]; omega⟩
    unfold fdR
    rw [hp]
    simp only [if_true]
    split <;> decide
  have hle := toP_leS hin r col m
  have HP := hide (And.intro hR (And.intro hP0 (And.intro hPn (And.intro hne2 hle))))
  have hc0 : 0 ≤ col := by omega
  have HC0 := hide hc0
  have HX := hide (lnx_all hin)
  clear hR hP0 hPn hne2 hle hneg hout hc0
  go_enter Tryz.func24, Tryz.ntmps24
  go_wp2_with fail
  refine (unhide HS1).mono ?_
  rintro y w1 ⟨rfl, x1⟩
  dsimp only
  clear HS1
  generalize szE r l = sz at *
  go_wp2_with fail
  clear t0 t1 t2 t3 t4 t5 t6 t7 t8 t9 u1 u2
  refine (Edges4_at a0 cap l w1 (hB.below x1 (Nat.le_refl _)) (by omega)).mono ?_
  rintro y w3 ⟨v, rfl, o3, x3⟩
  have hlen : (spots l 0).length + 1 = (edN l).length := by simp [edN]
  rw [hlen] at o3
  have hEn : (edN l).length ≤ l.length + 1 := by rw [← hlen]; have := spots_lenS l l.length 0 (by omega) (Nat.zero_le _); omega
  obtain ⟨gE, cE, rfl, lE, zE⟩ := rowI (ps := edN l) o3 (by simp [edN])
  have HS3 : Hid (TqS w gE (edN l) w3) := hide ⟨x1.trans (x3.mono x1.size), lE, zE⟩
  clear o3 x3 lE zE hlen x1
  have HEL : Hid (∀ k, k < (edN l).length → (edN l).getD k 0 ≤ l.length) := hide (fun k hk => edN_le hin hk)
  have HSZ : Hid (∀ (u : Int) (q : Nat) (X : World), (u = 1 ∨ u = 2 ∨ u = 3) → q ≤ l.length → Below w.heap.size w X → Calls Tryz.prog 57 #[.slice a0 q cap, .int .i64 u] X fun y w' => y = .returned (.int .i64 (szE u (l.take q) : Int)) ∧ Below X.heap.size X w') := hide (fun u q X hu hq hX => by
    have := RSize7_at a0 cap (l.take q) u X ((hB.below hX (Nat.le_refl _)).takeR (n := q)) (by rw [List.length_take]; omega) hu
    rw [List.length_take, Nat.min_eq_left hq] at this
    exact this)
  have hcap := hB.1
  clear hB hru htu hmu hin
  go_wp2_with fail
  go_loopw [13, 14, 15, 16] (fun vb va vi vc wx => ∃ (k : Nat) (bl ab : Int), k ≤ (edN l).length ∧ vb = .int .i64 bl ∧ va = .int .i64 ab ∧ vi = .int .i64 k ∧ (∃ z, vc = z) ∧ Hid (ToI l r col k bl ab) ∧ Hid (TqS w gE (edN l) wx)) (fun _ _ vi _ _ => (edN l).length - (intOf vi).toNat)
  case atStart => exact ⟨0, 0, -1, Nat.zero_le _, rfl, rfl, rfl, ⟨_, rfl⟩, hide (ToI.zero l r col), HS3⟩
  case round =>
    clear HS3
    obtain ⟨k, bl, ab, hk, rfl, rfl, rfl, ⟨z, rfl⟩, HI, HS⟩ := hrel
    by_cases hlt : k < (edN l).length
    · have t1 := lt_int hlt
      have hce := (unhide HS).e k hlt
      obtain ⟨q, hq⟩ : ∃ q, q = (edN l).getD k 0 := ⟨_, rfl⟩
      rw [← hq] at hce
      have hqn : q ≤ l.length := by rw [hq]; exact unhide HEL k hlt
      have hqc : q ≤ cap := by omega
      have HQ := hide hq.symm
      have hcc := ccE_at (l := l) (st := 0) (r := r) hq.symm
      rw [cut_to] at hcc
      have HCC := hide hcc
      have HC1 := hide (fun X hX => unhide HSZ r q X (unhide HRM).1 hqn hX)
      have HC2 := hide (fun X hX => unhide HSZ t q X (unhide HRM).2.1 hqn hX)
      clear hq hcc
      generalize szE r (l.take q) = cv at *
      go_wp2_with fail
      refine (unhide HC1 _ (unhide HS).d).mono ?_
      rintro y v1 ⟨rfl, bx⟩
      dsimp only
      have HG := hide ((unhide HS).on bx)
      have ce := (unhide HG).e k hlt
      rw [unhide HQ] at ce
      clear bx HS hce HC1
      rcases Int.lt_trichotomy (cv : Int) col with hcv | hcv | hcv
      · have u1 : ((cv : Int) == col) = false := by simp; omega
        have u2 : decide ((cv : Int) < col) = true := decide_eq_true hcv
        have u3 : decide ((cv : Int) > col) = false := decide_eq_false (by omega)
        have u4 : decide (col < (cv : Int)) = false := decide_eq_false (by omega)
        have HI3 := hide ((unhide HI).low ⟨Nat.zero_le _, unhide HEL k hlt⟩ (by rw [unhide HCC]; exact hcv))
        rw [unhide HQ] at HI3
        clear HI hcv HC2
        go_wp2_with fail
        go_roundw
        case rel => exact ⟨k + 1, _, ab, hlt, rfl, rfl, by go_num, ⟨_, rfl⟩, HI3, HG⟩
        case measure => simp [intOf]; omega
      · have u1 : ((cv : Int) == col) = true := by simpa using hcv
        obtain ⟨s1, s2⟩ := at_eq (unhide HX) (m := m) (col := col) (unhide HUU).1 (unhide HUU).2.2 hlt ⟨Nat.zero_le _, unhide HEL k hlt⟩ (by rw [unhide HCC]; exact hcv)
        rw [cut_all] at s1 s2
        rw [Nat.zero_add, unhide HQ] at s2
        have HV2 : Hid (toR r col t m (EE l) = 0 ∧ toP r col t m (EE l) = szE t (l.take q)) := hide ⟨by rw [(unhide HP).1, s1], by rw [(unhide HP).2.1 s1, s2]⟩
        have HDD := hide (unhide HG).d
        have HC3 := hide (unhide HC2 v1 (unhide HG).d)
        clear s1 s2 HI hcv HG HC2
        go_wp2_with fail
        refine (unhide HC3).mono ?_
        rintro y v2 ⟨rfl, bx⟩
        dsimp only
        go_wp2_with fail
        rw [(unhide HV2).1, (unhide HV2).2]
        refine bodyPost_ret (results_tmp2 rfl _ _ _) rfl ⟨rfl, (unhide HDD).trans (bx.mono (unhide HDD).size)⟩
      · have u1 : ((cv : Int) == col) = false := by simp; omega
        have u2 : decide ((cv : Int) < col) = false := decide_eq_false (by omega)
        have u3 : decide ((cv : Int) > col) = true := decide_eq_true hcv
        have u4 : decide (col < (cv : Int)) = true := decide_eq_true hcv
        have HI3 := hide ((unhide HI).high ⟨Nat.zero_le _, unhide HEL k hlt⟩ (by rw [unhide HCC]; exact hcv))
        rw [unhide HQ] at HI3
        clear HI hcv HC2
        by_cases hab : ab < 0
        · have u5 : decide (ab < 0) = true := decide_eq_true hab
          rw [if_pos hab] at HI3
          clear hab
          go_wp2_with fail
          go_roundw
          case rel => exact ⟨k + 1, bl, _, hlt, rfl, rfl, by go_num, ⟨_, rfl⟩, HI3, HG⟩
          case measure => simp [intOf]; omega
        · have u5 : decide (ab < 0) = false := decide_eq_false hab
          rw [if_neg hab] at HI3
          clear hab
          go_wp2_with fail
          go_roundw
          case rel => exact ⟨k + 1, bl, _, hlt, rfl, rfl, by go_num, ⟨_, rfl⟩, HI3, HG⟩
          case measure => simp [intOf]; omega
    · obtain rfl : k = (edN l).length := by omega
      have t1 : decide (((edN l).length : Int) < ((edN l).length : Int)) = false := decide_eq_false (by omega)
      have HD := hide (unhide HS).d
      obtain ⟨s1, s2, s3⟩ := to_end (unhide HX) (unhide HUU).1 (unhide HUU).2.2 (unhide HC0) (unhide HP).2.2.2.1 (unhide HI)
      clear HS HI
      rcases (unhide HRM).2.2 with rfl | rfl | rfl
      · have e1 := s2 rfl
        have hs0 : toR r col 1 1 (EE l) = 0 := s1
        have hqn := (unhide HP).2.2.2.2
        obtain ⟨q, hq⟩ : ∃ q : Nat, q = toP r col 1 1 (EE l) := ⟨_, rfl⟩
        rw [← hq] at e1 hqn
        have HV2 : Hid (toR r col t 1 (EE l) = 0 ∧ toP r col t 1 (EE l) = szE t (l.take q)) := hide ⟨by rw [(unhide HP).1, hs0], by rw [(unhide HP).2.1 hs0, ← hq]⟩
        have hqc : q ≤ cap := by omega
        have HC2 := hide (unhide HSZ t q wr (unhide HRM).2.1 hqn (unhide HD))
        subst e1
        clear s1 s2 s3 hs0 hq
        go_wp2_with fail
        refine (unhide HC2).mono ?_
        rintro y v2 ⟨rfl, bx⟩
        dsimp only
        go_wp2_with fail
        rw [(unhide HV2).1, (unhide HV2).2]
        refine bodyPost_ret (results_tmp2 rfl _ _ _) rfl ⟨rfl, (unhide HD).trans (bx.mono (unhide HD).size)⟩
      · have e1 := s3 rfl
        have hs0 : toR r col 1 2 (EE l) = 0 := s1
        have hqn := (unhide HP).2.2.2.2
        obtain ⟨q, hq⟩ : ∃ q : Nat, q = toP r col 1 2 (EE l) := ⟨_, rfl⟩
        rw [← hq] at e1 hqn
        have HV2 : Hid (toR r col t 2 (EE l) = 0 ∧ toP r col t 2 (EE l) = szE t (l.take q)) := hide ⟨by rw [(unhide HP).1, hs0], by rw [(unhide HP).2.1 hs0, ← hq]⟩
        have hqc : q ≤ cap := by omega
        have HC2 := hide (unhide HSZ t q wr (unhide HRM).2.1 hqn (unhide HD))
        subst e1
        clear s1 s2 s3 hs0 hq
        go_wp2_with fail
        refine (unhide HC2).mono ?_
        rintro y v2 ⟨rfl, bx⟩
        dsimp only
        go_wp2_with fail
        rw [(unhide HV2).1, (unhide HV2).2]
        refine bodyPost_ret (results_tmp2 rfl _ _ _) rfl ⟨rfl, (unhide HD).trans (bx.mono (unhide HD).size)⟩
      · have hs4 : toR r col 1 3 (EE l) = 4 := s1
        have HV2 : Hid (toR r col t 3 (EE l) = 4 ∧ toP r col t 3 (EE l) = 0) := hide ⟨by rw [(unhide HP).1, hs4], (unhide HP).2.2.1 (by rw [hs4]; decide)⟩
        clear s1 s2 s3 hs4
        go_wp2_with fail
        rw [(unhide HV2).1, (unhide HV2).2]
        refine bodyPost_ret (results_tmp2 rfl _ _ _) rfl ⟨rfl, unhide HD⟩
end
section
def jumps (J : Nat → Act → World → Prop) (Q : Exit → Act → World → Prop) : Exit → Act → World → Prop
  | .goto l, a, w => J l a w
  | e, a, w => Q e a w
theorem wp_scope_labels {P : Program} {a : Act} {w : World} {Q : Exit → Act → World → Prop} {c : Code} (J : Nat → Nat → Act → World → Prop)
    (first : c.wp P (jumps (fun l a w => ∃ m, J l m a w) Q) a w)
    (pass : ∀ l m a w, J l m a w → ∃ rest, findLabel c l = some rest ∧ rest.wp P (jumps (fun l' a' w' => ∃ m', J l' m' a' w' ∧ m' < m) Q) a w) : (Code.scope c).wp P Q a w := by
  intro b k cs
  have key : ∀ m l a w, J l m a w → ∀ rest, findLabel c l = some rest → ∃ e a' w', Q e a' w' ∧ Arrives P (lone (b.at a (.code rest :: .inScope c :: k)) cs w) b k cs e a' w' := by
    intro m
    induction m using Nat.strongRecOn with
    | _ m ih =>
      intro l a w hJ rest hr
      obtain ⟨rest', hr', hp⟩ := pass l m a w hJ
      rw [hr] at hr'
      cases hr'
      obtain ⟨e, a₁, w₁, hq, harr⟩ := hp b (.inScope c :: k) cs
      cases e with
      | normal => exact ⟨.normal, a₁, w₁, hq, Steps.trans harr (.one step_inScope)⟩
      | exit id => exact ⟨.exit id, a₁, w₁, hq, fun k' hk => harr k' (by simp [exitTo, hk])⟩
      | goto l' =>
        obtain ⟨m', hJ', hlt⟩ := hq
        obtain ⟨r', hr', _⟩ := pass l' m' a₁ w₁ hJ'
        obtain ⟨e₂, a₂, w₂, hq₂, harr₂⟩ := ih m' hlt l' a₁ w₁ hJ' r' hr'
        have hg : gotoIn l' (.inScope c :: k) = some (.code r' :: .inScope c :: k) := by simp [gotoIn, hr']
        exact ⟨e₂, a₂, w₂, hq₂, .of_steps (harr _ hg) harr₂⟩
      | ret => exact ⟨_, a₁, w₁, hq, harr⟩
      | panic ch => exact ⟨_, a₁, w₁, hq, harr⟩
      | outgrown => exact ⟨_, a₁, w₁, hq, harr⟩
  obtain ⟨e, a₁, w₁, hq, harr⟩ := first b (.inScope c :: k) cs
  cases e with
  | normal => exact ⟨.normal, a₁, w₁, hq, .head step_scope (Steps.trans harr (.one step_inScope))⟩
  | exit id => exact ⟨.exit id, a₁, w₁, hq, fun k' hk => .head step_scope (harr k' (by simp [exitTo, hk]))⟩
  | goto l' =>
    obtain ⟨m', hJ'⟩ := hq
    obtain ⟨r', hr', _⟩ := pass l' m' a₁ w₁ hJ'
    obtain ⟨e₂, a₂, w₂, hq₂, harr₂⟩ := key m' l' a₁ w₁ hJ' r' hr'
    have hg : gotoIn l' (.inScope c :: k) = some (.code r' :: .inScope c :: k) := by simp [gotoIn, hr']
    exact ⟨e₂, a₂, w₂, hq₂, .of_steps (.head step_scope (harr _ hg)) harr₂⟩
  | ret => exact ⟨_, a₁, w₁, hq, .of_steps (.one step_scope) harr⟩
  | panic ch => exact ⟨_, a₁, w₁, hq, .of_steps (.one step_scope) harr⟩
  | outgrown => exact ⟨_, a₁, w₁, hq, .of_steps (.one step_scope) harr⟩
def FrT (g : Nat) (bv tv : Value) (a : Act) : Prop := ∃ u2 u3 u6 u7 u8 u9 u10 u11 u12 u13 u14 u15 u16 u17 u18 u19 u20 u21 u22 u23 u24 u25 u26 u27 u28 u29 u30 u31 u32 u33 u34 u35 u36 u37 u38 u39 u40 u41 u42 u43 u44 u45 u46 u47 u48 u49 u50 u51 u52 u53 u54 u55 u56 u57 u58 u59 u60 u61 u62 u63 u64 u65 u66 u67 u68 u69 u70 u71 u72 u73 u74 u75 u76 u77 u78 u79 u80 u81 u82 : Value, a = { tmps := #[.pointer (some ⟨g, 0, none⟩), bv, u2, u3, .slice none 0 0, tv, u6, u7, u8, u9, u10, u11, u12, u13, u14, u15, u16, u17, u18, u19, u20, u21, u22, u23, u24, u25, u26, u27, u28, u29, u30, u31, u32, u33, u34, u35, u36, u37, u38, u39, u40, u41, u42, u43, u44, u45, u46, u47, u48, u49, u50, u51, u52, u53, u54, u55, u56, u57, u58, u59, u60, u61, u62, u63, u64, u65, u66, u67, u68, u69, u70, u71, u72, u73, u74, u75, u76, u77, u78, u79, u80, u81, u82], defers := [] }
def AtL (l : Nat) (h b : List Int) : Prop :=
  match l with
  | 0 => h = []
  | 1 => prop h = true ∧ h.length = 1
  | 2 => prop h = true ∧ 2 ≤ h.length
  | 3 => ∃ x r, b = x :: r ∧ whole (h ++ [x]) = true ∧ stepS h x = ([(value (h ++ [x]), h.length + 1, true)], [])
  | 4 => prop h = true ∧ ∃ x r, b = x :: r ∧ fits h x = true
  | 5 => prop h = true ∧ ∃ x r, b = x :: r ∧ fits h x = false
  | _ => False
def rank (l : Nat) : Nat := match l with | 0 => 1 | 1 => 3 | 2 => 3 | 3 => 0 | _ => 2
structure Mem (g : Nat) (fed : Int) (w0 : World) (h b : List Int) (ts : List Tri) (a0 : Option Addr) (cap : Nat) (v : Value) (w : World) : Prop where
  sca : Sca w g h fed
  scf : Scf w0.heap.size g w0 w
  row : RT w0.heap.size v ts w
  isb : IsB w0 a0 cap b
  blk : ∀ a, a0 = some a → a.block < w0.heap.size ∧ a.block ≠ g
  tab0 : Tab w0
  gne : g ≠ 0
  len : ts.length + h.length + b.length ≤ 4194000
  low : g < w0.heap.size
def J (g : Nat) (fed : Int) (w0 : World) (T : List Tri) (H : List Int) (l m : Nat) (a : Act) (w : World) : Prop :=
  ∃ (h b : List Int) (ts : List Tri) (a0 : Option Addr) (cap : Nat) (v : Value), FrT g (.slice a0 b.length cap) v a ∧ m = 4 * b.length + rank l ∧ Hid (Mem g fed w0 h b ts a0 cap v w) ∧ AtL l h b ∧
    Hid (ts ++ (scanS h b).1 = T ∧ (scanS h b).2 = H)
def JN (g : Nat) (fed : Int) (w0 : World) (T : List Tri) (H : List Int) (m l : Nat) (a : Act) (w : World) : Prop := ∃ m', J g fed w0 T H l m' a w ∧ m' < m
def TakeR (g : Nat) (fed : Int) (w0 : World) (T : List Tri) (H : List Int) (e : Ending) (w : World) : Prop := ∃ v, e = .returned v ∧ RT w0.heap.size v T w ∧ Sca w g H fed ∧ Scf w0.heap.size g w0 w
def scopeOf (f : Func) : Code := match f.body with | some (.seq _ (.scope c)) => c | _ => .skip
theorem Mem.ret {g : Nat} {fed : Int} {w0 w : World} {h : List Int} {ts T : List Tri} {H : List Int} {a0 : Option Addr} {cap : Nat} {v : Value} (hm : Mem g fed w0 h [] ts a0 cap v w) (hs : ts ++ (scanS h []).1 = T ∧ (scanS h []).2 = H) : TakeR g fed w0 T H (.returned v) w := by
  obtain ⟨rfl, rfl⟩ := hs
  simp only [scanS, List.append_nil]
  exact ⟨v, rfl, hm.row, hm.sca, hm.scf⟩
theorem Mem.tab {g : Nat} {fed : Int} {w0 w : World} {h b : List Int} {ts : List Tri} {a0 : Option Addr} {cap : Nat} {v : Value} (hm : Mem g fed w0 h b ts a0 cap v w) : Tab w := hm.tab0.scf hm.scf hm.tab0.size hm.gne
theorem Mem.head {g : Nat} {fed : Int} {w0 w : World} {h : List Int} {x : Int} {r : List Int} {ts : List Tri} {a0 : Option Addr} {cap : Nat} {v : Value} (hm : Mem g fed w0 h (x :: r) ts a0 cap v w) :
    ∃ gb off, a0 = some ⟨gb, off, none⟩ ∧ w.cell? ⟨gb, off, none⟩ = some (.int .u8 x) ∧ (0 ≤ x ∧ x ≤ 255) ∧ r.length + 1 ≤ cap ∧ r.length + 1 ≤ 140737488351232 ∧ gb < w0.heap.size ∧ gb ≠ g := by
  obtain ⟨h1, h2, h3, h4⟩ := hm.isb
  rcases h3 with h3 | ⟨gb, off, rfl, hL⟩
  · cases h3
  · have hb := hm.blk _ rfl
    exact ⟨gb, off, rfl, (hL.same (hm.scf.block gb hb.1 hb.2)).head.1, hL.head.2, h1, h2, hb.1, hb.2⟩
theorem Mem.next {g : Nat} {fed : Int} {w0 w w' : World} {h h' : List Int} {x : Int} {r : List Int} {ts ts' : List Tri} {gb off cap : Nat} {v v' : Value} (hm : Mem g fed w0 h (x :: r) ts (some ⟨gb, off, none⟩) cap v w)
    (s : Sca w' g h' fed) (f : Scf w0.heap.size g w0 w') (r' : RT w0.heap.size v' ts' w') (hl : ts'.length + h'.length ≤ ts.length + h.length + 1) :
    Mem g fed w0 h' r ts' (if cap = 1 then some ⟨gb, off, none⟩ else some ⟨gb, off + 1, none⟩) (cap - 1) v' w' := by
  obtain ⟨h1, h2, h3, h4⟩ := hm.isb
  have hb := hm.blk _ rfl
  have hl0 := hm.len
  simp only [List.length_cons] at h1 h2 hl0
  have hL : Lies w0 gb off (x :: r) := by
    rcases h3 with h3 | ⟨gb', off', e, hL⟩
    · cases h3
    · cases e; exact hL
  refine ⟨s, f, r', ⟨by omega, by omega, Bs.from1 h1 hL, fun y hy => h4 y (List.mem_cons_of_mem _ hy)⟩, fun a ha => ?_, hm.tab0, hm.gne, by omega, hm.low⟩
  split at ha <;> cases ha <;> exact hb
theorem Mem.stay {g : Nat} {fed : Int} {w0 w w' : World} {h h' b : List Int} {ts ts' : List Tri} {a0 : Option Addr} {cap : Nat} {v v' : Value} (hm : Mem g fed w0 h b ts a0 cap v w)
    (s : Sca w' g h' fed) (f : Scf w0.heap.size g w0 w') (r' : RT w0.heap.size v' ts' w') (hl : ts'.length + h'.length ≤ ts.length + h.length) : Mem g fed w0 h' b ts' a0 cap v' w' :=
  ⟨s, f, r', hm.isb, hm.blk, hm.tab0, hm.gne, by have := hm.len; omega, hm.low⟩
theorem Mem.drew {g : Nat} {fed : Int} {w0 w : World} {h b : List Int} {ts : List Tri} {a0 : Option Addr} {cap : Nat} {v : Value} (hm : Mem g fed w0 h b ts a0 cap v w) (n : Nat) : Mem g fed w0 h b ts a0 cap v (w.drewN n) :=
  hm.stay hm.sca (hm.scf.drewN n) hm.row (Nat.le_refl _)
theorem RT.scf {B g : Nat} {v : Value} {ts : List Tri} {W W' : World} (h : RT B v ts W) (hb : Scf W.heap.size g W W') (hg : g < B) : RT B v ts W' := h.same fun k hk hk' => hb.block k hk' (by omega)
theorem RT.pushw {B : Nat} {v : Value} {ts : List Tri} {W : World} (h : RT B v ts W) (r : Int) (n : Nat) (hn : ts.length ≤ 4194304) (hB : B ≤ W.heap.size) :
    ∃ g k W', (Builtin.append_ #[57, 57] 57 #[v, .slice (some ⟨W.heap.size, 0, none⟩) 1 1]).run Tryz.prog (W.alloc (.cells #[.int .i32 r, .int .i64 ((n : Int) + 1), .bool true] 82)) = .ok (.slice (some ⟨g, 0, none⟩) (ts.length + 1) k) W' ∧
      RT B (.slice (some ⟨g, 0, none⟩) (ts.length + 1) k) (ts ++ [(r, n + 1, true)]) W' ∧ Below B W W' := h.push r (n + 1) true hn hB
end
section
theorem pass_last (g : Nat) (fed : Int) (w0 : World) (T : List Tri) (H : List Int) (m : Nat) (a : Act) (w : World) (hJ : J g fed w0 T H 3 m a w) :
    ∃ rest, findLabel (scopeOf Tryz.f137) 3 = some rest ∧ rest.wp Tryz.prog (jumps (JN g fed w0 T H m) (bodyPost Tryz.prog Tryz.f137 (TakeR g fed w0 T H))) a w := by
  obtain ⟨h, b, ts, a0, cap, v, ⟨u2, u3, u6, u7, u8, u9, u10, u11, u12, u13, u14, u15, u16, u17, u18, u19, u20, u21, u22, u23, u24, u25, u26, u27, u28, u29, u30, u31, u32, u33, u34, u35, u36, u37, u38, u39, u40, u41, u42, u43, u44, u45, u46, u47, u48, u49, u50, u51, u52, u53, u54, u55, u56, u57, u58, u59, u60, u61, u62, u63, u64, u65, u66, u67, u68, u69, u70, u71, u72, u73, u74, u75, u76, u77, u78, u79, u80, u81, u82, rfl⟩, rfl, HM, hA, HQ⟩ := hJ
  obtain ⟨x, r, rfl, hw, he⟩ := hA
  obtain ⟨gb, off, rfl, hc, hx, hcap, hlen, hgb, hgn⟩ := (unhide HM).head
  simp only [List.length_cons]
  have HE := hide he
  have HW := hide hw
  clear he hw
  refine ⟨_, rfl, ?_⟩
  go_wp2_with fail
  refine (whole_at g h fed x w (unhide HM).sca hx (unhide HM).tab (unhide HW)).mono ?_
  unfold stepV
  rintro e w1 ⟨rfl, s1, f1⟩
  have hz0 := (unhide HM).scf.size
  have hlen2 := (unhide HM).len
  obtain ⟨g3, c3, w3, r3, o3, x3⟩ := ((unhide HM).row.scf f1 (unhide HM).low).pushw (value (h ++ [x])) h.length (by simp only [List.length_cons] at hlen2; omega) (Nat.le_trans hz0 f1.size)
  have R3 := hide r3
  clear r3
  have hM3 := (unhide HM).next (s1.below x3 (unhide HM).low) ((Scf.chain2 (Nat.le_refl _) (unhide HM).scf f1).trans (.of x3)) o3 (by simp)
  have HM3 := hide hM3
  clear hM3 x3 o3 s1 f1 hlen2
  have HQ3 : Hid ((ts ++ [(value (h ++ [x]), h.length + 1, true)]) ++ (scanS [] r).1 = T ∧ (scanS [] r).2 = H) := by
    obtain ⟨q1, q2⟩ := unhide HQ
    simp only [scanS, unhide HE] at q1 q2
    exact hide ⟨by rw [← q1]; simp, q2⟩
  clear HQ
  dsimp only
  go_wp2_with (at_builtin; refine wpList_append_known rfl _ _ 57 57 rfl _ _ rfl rfl _ _ (unhide R3) ?_)
  all_goals (
    go_step3
    first
      | rw [if_pos ‹cap = 1›, show cap - 1 = 0 by omega] at HM3
      | rw [if_neg ‹¬ cap = 1›] at HM3
    exact ⟨_, ⟨[], r, _, _, _, _, ⟨_, _, _, _, _, _, _, _, _, _, _, _, _, _, _, _, _, _, _, _, _, _, _, _, _, _, _, _, _, _, _, _, _, _, _, _, _, _, _, _, _, _, _, _, _, _, _, _, _, _, _, _, _, _, _, _, _, _, _, _, _, _, _, _, _, _, _, _, _, _, _, _, _, _, _, _, _, _, _, rfl⟩, rfl, HM3, rfl, HQ3⟩, by simp only [rank]; omega⟩)
theorem pass_broken (g : Nat) (fed : Int) (w0 : World) (T : List Tri) (H : List Int) (m : Nat) (a : Act) (w : World) (hJ : J g fed w0 T H 5 m a w) :
    ∃ rest, findLabel (scopeOf Tryz.f137) 5 = some rest ∧ rest.wp Tryz.prog (jumps (JN g fed w0 T H m) (bodyPost Tryz.prog Tryz.f137 (TakeR g fed w0 T H))) a w := by
  obtain ⟨h, b, ts, a0, cap, v, ⟨u2, u3, u6, u7, u8, u9, u10, u11, u12, u13, u14, u15, u16, u17, u18, u19, u20, u21, u22, u23, u24, u25, u26, u27, u28, u29, u30, u31, u32, u33, u34, u35, u36, u37, u38, u39, u40, u41, u42, u43, u44, u45, u46, u47, u48, u49, u50, u51, u52, u53, u54, u55, u56, u57, u58, u59, u60, u61, u62, u63, u64, u65, u66, u67, u68, u69, u70, u71, u72, u73, u74, u75, u76, u77, u78, u79, u80, u81, u82, rfl⟩, rfl, HM, hA, HQ⟩ := hJ
  obtain ⟨hp, x, r, rfl, hf⟩ := hA
  have HP := hide hp
  have hq := scanS_broken (r := r) hp hf
  have HQ3 : Hid ((ts ++ List.replicate h.length badT) ++ (scanS [] (x :: r)).1 = T ∧ (scanS [] (x :: r)).2 = H) := by
    obtain ⟨q1, q2⟩ := unhide HQ
    rw [hq] at q1 q2
    exact hide ⟨by rw [← q1]; simp, q2⟩
  clear HQ hq hp hf
  refine ⟨_, rfl, ?_⟩
  go_wp2_with fail
  refine (breakOff_at g w0.heap.size h fed v ts w (unhide HM).sca (unhide HM).row (unhide HM).scf.size (unhide HM).low (by have := (unhide HM).len; omega)).mono ?_
  rintro e w1 ⟨v1, rfl, o1, s1, f1⟩
  have HM3 := hide ((unhide HM).stay s1 ((unhide HM).scf.trans f1) o1 (by simp))
  clear o1 s1 f1
  dsimp only
  go_wp2_with fail
  go_step3
  exact ⟨_, ⟨[], x :: r, _, _, _, _, ⟨_, _, _, _, _, _, _, _, _, _, _, _, _, _, _, _, _, _, _, _, _, _, _, _, _, _, _, _, _, _, _, _, _, _, _, _, _, _, _, _, _, _, _, _, _, _, _, _, _, _, _, _, _, _, _, _, _, _, _, _, _, _, _, _, _, _, _, _, _, _, _, _, _, _, _, _, _, _, _, rfl⟩, rfl, HM3, rfl, HQ3⟩, by simp only [rank]; omega⟩
end
end Go.Proofs.YteamaneompijkaaGreatDoor
