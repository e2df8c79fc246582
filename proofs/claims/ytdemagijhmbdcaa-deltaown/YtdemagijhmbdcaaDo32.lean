/- Layer 13: the law's short. · Layer 13: DeltaDoes' walk (written by wip/tools/dsj.py). · Layer 13: the document's Compose. -/
import Derived.Test.YtdemagijhmbdcaaDo31
import Derived.Test.YtdemagijhmbdcaaDo30

section
namespace Go.Proofs.Ytdemagijhmbdcaa
open Go.ChangeShapes Go.WideShapes Go.ChangeAt Go.RowKit
attribute [local go_sem] Oper.semAt_some

/-- a list that may be worked through -/
def ShD (d : List Dop) : Prop := d.length ≤ 200 ∧ (∀ o ∈ d, o.k = 1 ∨ o.k = 2 ∨ o.k = 3) ∧ smT d ≤ 5000
structure Dl where
  a : Option Addr
  c : Nat
  d : List Dop
def dlZ : Dl := ⟨none, 0, []⟩
/-- lists of operations that lie in a row of slices -/
structure IsDs (w X : World) (G : Nat) (ds : List Dl) : Prop where
  c : ∀ i, i < ds.length → X.cell? ⟨G, i, none⟩ = some (.slice (ds.getD i dlZ).a (ds.getD i dlZ).d.length (ds.getD i dlZ).c)
  o : ∀ i, i < ds.length → IsO w (ds.getD i dlZ).a (ds.getD i dlZ).d ∧ (∀ o ∈ (ds.getD i dlZ).d, o.t.length ≤ 140737488355328)
  g : G < X.heap.size
theorem IsDs.on {w X Y : World} {G : Nat} {ds : List Dl} (h : IsDs w X G ds) (hb : Below X.heap.size X Y) : IsDs w Y G ds :=
  ⟨fun i hi => (hb.cell (p := ⟨G, i, none⟩) h.g).trans (h.c i hi), h.o, Nat.lt_of_lt_of_le h.g hb.size⟩
theorem smT_le {d : List Dop} (ht : ∀ o ∈ d, o.t.length ≤ 140737488355328) : ∀ k, k ≤ d.length → smT (d.take k) ≤ k * 140737488355328
  | 0, _ => by simp [smT]
  | k + 1, h => by
    have ih := smT_le ht k (by omega)
    have := ht _ (getD_memD (d := d) (k := k) (by omega))
    rw [smT_take d (by omega)]
    omega
set_option maxRecDepth 100000 in
set_option maxHeartbeats 4000000 in
theorem short_at (a0 : Option Addr) (bl c0 G cc : Nat) (ds : List Dl) (w X : World) (h : IsDs w X G ds) (hd : Below w.heap.size w X) (hl : ds.length ≤ 1000) :
    Calls Try.prog 5 #[.slice a0 bl c0, .slice (some ⟨G, 0, none⟩) ds.length cc] X fun y X' => ∃ r : Bool, y = .returned (.bool r) ∧ (r = true → bl ≤ 5000 ∧ ∀ i, i < ds.length → ShD (ds.getD i dlZ).d) ∧ Below X.heap.size X X' := by
  have HH := hide fun (Y : World) (hY : Below X.heap.size X Y) => h.on hY
  have HW := hide fun (Y : World) (hY : Below X.heap.size X Y) => hd.trans (hY.mono hd.size)
  clear h hd
  by_cases hb : 5000 < bl
  · have t1 : decide ((bl : Int) > 5000) = true := decide_eq_true (by omega)
    have t2 : decide ((5000 : Int) < (bl : Int)) = true := decide_eq_true (by omega)
    have t3 : decide (5000 < bl) = true := decide_eq_true hb
    clear HH HW
    go_enter Try.func5, Try.ntmps5
    go_wp2_with fail
    refine bodyPost_ret (results_tmp rfl _ _ _) rfl ⟨false, rfl, (fun h => by cases h), Below.refl _ _⟩
  have t1 : decide ((bl : Int) > 5000) = false := decide_eq_false (by omega)
  have t2 : decide ((5000 : Int) < (bl : Int)) = false := decide_eq_false (by omega)
  have t3 : decide (5000 < bl) = false := decide_eq_false hb
  have HBL : Hid (bl ≤ 5000) := hide (by omega)
  clear hb
  go_enter Try.func5, Try.ntmps5
  go_wp2_with fail
  clear t1 t2 t3
  go_loopw [5, 6, 8, 14, 26, 27, 28] (fun v5 v6 v8 v14 v26 v27 v28 wx => ((∃ z, v5 = z) ∧ (∃ z, v6 = z) ∧ (∃ z, v8 = z) ∧ (∃ z, v26 = z) ∧ (∃ z, v27 = z) ∧ (∃ z, v28 = z)) ∧ (∃ k : Nat, v14 = .int .i64 (k : Int) ∧ k ≤ ds.length ∧ Hid ((∀ i, i < k → ShD (ds.getD i dlZ).d) ∧ Below X.heap.size X wx))) (fun _ _ _ v14 _ _ _ _ => ds.length - (intOf v14).toNat)
  case atStart => exact ⟨⟨⟨_, rfl⟩, ⟨_, rfl⟩, ⟨_, rfl⟩, ⟨_, rfl⟩, ⟨_, rfl⟩, ⟨_, rfl⟩⟩, ⟨0, rfl, Nat.zero_le _, hide ⟨fun i hi => absurd hi (Nat.not_lt_zero i), Below.refl _ _⟩⟩⟩
  case round =>
    obtain ⟨⟨⟨z1, rfl⟩, ⟨z2, rfl⟩, ⟨z3, rfl⟩, ⟨z4, rfl⟩, ⟨z5, rfl⟩, ⟨z6, rfl⟩⟩, ⟨k, rfl, hk, HI⟩⟩ := hrel
    by_cases hlt : k < ds.length
    · have s1 : decide ((k : Int) < (ds.length : Int)) = true := decide_eq_true (by omega)
      have s1' : (k : Int) < (ds.length : Int) := by omega
      have hS := unhide HH wr (unhide HI).2
      have q0 := hS.c k hlt
      obtain ⟨hO, hT⟩ := hS.o k hlt
      have HO := hide fun (Y : World) (hY : Below X.heap.size X Y) => hO.below (unhide HW Y hY) (Nat.le_refl _)
      have HT := hide hT
      have HN : Hid (ShD (ds.getD k dlZ).d → ∀ i, i < k + 1 → ShD (ds.getD i dlZ).d) := hide fun h0 i hi => by
        rcases Nat.lt_or_ge i k with h | h
        · exact (unhide HI).1 i h
        · obtain rfl : i = k := by omega
          exact h0
      have HB := hide (unhide HI).2
      clear HI hS hO hT hk
      generalize ds.getD k dlZ = x at *
      obtain ⟨xa, xc, d⟩ := x
      dsimp only at q0 HO HT HN
      by_cases h2 : 200 < d.length
      · have t1 : decide ((d.length : Int) > 200) = true := decide_eq_true (by omega)
        have t2 : decide ((200 : Int) < (d.length : Int)) = true := decide_eq_true (by omega)
        have t3 : decide (200 < d.length) = true := decide_eq_true h2
        clear HO HT HN h2
        go_wp2_with fail
        refine bodyPost_ret (results_tmp rfl _ _ _) rfl ⟨false, rfl, (fun h => by cases h), unhide HB⟩
      · have t1 : decide ((d.length : Int) > 200) = false := decide_eq_false (by omega)
        have t2 : decide ((200 : Int) < (d.length : Int)) = false := decide_eq_false (by omega)
        have t3 : decide (200 < d.length) = false := decide_eq_false h2
        have HDL : Hid (d.length ≤ 200) := hide (by omega)
        go_wp2_with fail
        clear t1 t2 t3 q0 s1 s1'
        go_loopw [6, 8, 28] (fun v6 v8 v28 wx => (∃ z, v8 = z) ∧ (∃ j : Nat, v28 = .int .i64 (j : Int) ∧ v6 = .int .i64 (smT (d.take j) : Int) ∧ j ≤ d.length ∧ Hid ((∀ i, i < j → (d.getD i opZ).k = 1 ∨ (d.getD i opZ).k = 2 ∨ (d.getD i opZ).k = 3) ∧ Below X.heap.size X wx))) (fun _ _ v28 _ => d.length - (intOf v28).toNat)
        case atStart => exact ⟨⟨_, rfl⟩, ⟨0, rfl, by simp [smT], Nat.zero_le _, hide ⟨fun i hi => absurd hi (Nat.not_lt_zero i), unhide HB⟩⟩⟩
        case round =>
          clear HB
          obtain ⟨⟨z1, rfl⟩, ⟨j, rfl, rfl, hj, HI⟩⟩ := hrel
          by_cases hjl : j < d.length
          · have s1 : decide ((j : Int) < (d.length : Int)) = true := decide_eq_true (by omega)
            obtain ⟨g, off, rfl, hg, c0, c1, c2⟩ := (unhide HO wr (unhide HI).2).three hjl
            have hx := unhide HT _ (getD_memD hjl)
            have hle := smT_le (unhide HT) j hj
            have hd2 := unhide HDL
            have HS := hide (smT_take d hjl)
            have HNJ : Hid (((d.getD j opZ).k = 1 ∨ (d.getD j opZ).k = 2 ∨ (d.getD j opZ).k = 3) → ∀ i, i < j + 1 → (d.getD i opZ).k = 1 ∨ (d.getD i opZ).k = 2 ∨ (d.getD i opZ).k = 3) := hide fun h0 i hi => by
              rcases Nat.lt_or_ge i j with h | h
              · exact (unhide HI).1 i h
              · obtain rfl : i = j := by omega
                exact h0
            have w1 : wrap64 ((smT (d.take j) : Int) + ((d.getD j opZ).t.length : Int)) = ((smT (d.take (j + 1)) : Nat) : Int) := by rw [unhide HS, wrapD _ (by omega) (by omega)]; omega
            have hsz := strOfNums_size (d.getD j opZ).t
            generalize d.getD j opZ = x at *
            obtain ⟨xk, xn, xt⟩ := x
            dsimp only at c0 c1 c2 w1 hsz HNJ
            obtain ⟨d0, d1, d2⟩ := three_nwD wr (.int .i64 xk) (.int .i64 xn) (.string (strOfNums xt)) (t := 34)
            have HB := hide ((unhide HI).2.alloc (unhide HI).2.size (.cells #[.int .i64 xk, .int .i64 xn, .string (strOfNums xt)] 34))
            have W1 := hide w1
            clear HI HO HT HN hj hx hle hd2 HS HDL w1 hg
            generalize hSe : smT (d.take (j + 1)) = S' at *
            have HSE := hide hSe
            clear hSe
            generalize smT (d.take j) = S0 at *
            generalize xt.length = lx at *
            generalize strOfNums xt = st at *
            go_upto_region 12 with fail
            clear c0 c1 c2 d1
            generalize wr.alloc (.cells #[.int .i64 xk, .int .i64 xn, .string st] 34) = v0 at *
            generalize wr.heap.size = gb at *
            by_cases k1 : xk < 1
            · have r1 : decide (xk < 1) = true := decide_eq_true k1
              have w1 := unhide W1
              clear HNJ k1
              go_wp2_with fail
              refine bodyPost_ret (results_tmp rfl _ _ _) rfl ⟨false, rfl, (fun h => by cases h), unhide HB⟩
            by_cases k3 : 3 < xk
            · have r1 : decide (xk < 1) = false := decide_eq_false k1
              have r2 : decide (xk > 3) = true := decide_eq_true k3
              have r3 : decide ((3 : Int) < xk) = true := decide_eq_true k3
              have w1 := unhide W1
              clear HNJ k1 k3
              go_wp2_with fail
              refine bodyPost_ret (results_tmp rfl _ _ _) rfl ⟨false, rfl, (fun h => by cases h), unhide HB⟩
            · have HN2 := hide (unhide HNJ (by omega))
              have r1 : decide (xk < 1) = false := decide_eq_false k1
              have r2 : decide (xk > 3) = false := decide_eq_false k3
              have r3 : decide ((3 : Int) < xk) = false := decide_eq_false k3
              have w1 := unhide W1
              clear HNJ k1 k3
              go_wp2_with fail
              go_roundw
              case rel => exact ⟨⟨_, rfl⟩, ⟨j + 1, by go_num, by rw [unhide HSE, w1], hjl, hide ⟨unhide HN2, unhide HB⟩⟩⟩
              case measure => simp [intOf]; omega
          · obtain rfl : j = d.length := by omega
            have s1 : decide (((d.length : Nat) : Int) < (d.length : Int)) = false := by simp
            rw [List.take_length]
            have hK := (unhide HI).1
            have HB := hide (unhide HI).2
            clear HI hj hjl HO HT
            by_cases h5 : 5000 < smT d
            · have t1 : decide ((smT d : Int) > 5000) = true := decide_eq_true (by omega)
              have t2 : decide ((5000 : Int) < (smT d : Int)) = true := decide_eq_true (by omega)
              have t3 : decide (5000 < smT d) = true := decide_eq_true h5
              clear HN h5 hK
              generalize smT d = S0 at *
              go_wp2_with fail
              refine bodyPost_ret (results_tmp rfl _ _ _) rfl ⟨false, rfl, (fun h => by cases h), unhide HB⟩
            · have t1 : decide ((smT d : Int) > 5000) = false := decide_eq_false (by omega)
              have t2 : decide ((5000 : Int) < (smT d : Int)) = false := decide_eq_false (by omega)
              have t3 : decide (5000 < smT d) = false := decide_eq_false h5
              have HN2 := hide (unhide HN ⟨unhide HDL, fun o ho => by
                obtain ⟨i, hi, rfl⟩ := List.getElem_of_mem ho
                have := hK i hi
                simpa [List.getD, List.getElem?_eq_getElem hi] using this, by omega⟩)
              clear HN h5 hK HDL
              generalize smT d = S0 at *
              go_wp2_with fail
              go_roundw
              case rel => exact ⟨⟨⟨_, rfl⟩, ⟨_, rfl⟩, ⟨_, rfl⟩, ⟨_, rfl⟩, ⟨_, rfl⟩, ⟨_, rfl⟩⟩, ⟨k + 1, by go_num, hlt, hide ⟨unhide HN2, unhide HB⟩⟩⟩
              case measure => simp [intOf]; omega
    · obtain rfl : k = ds.length := by omega
      have s1 : decide (((ds.length : Nat) : Int) < (ds.length : Int)) = false := by simp
      have HR := hide (unhide HI).1
      have HB := hide (unhide HI).2
      clear HI hk hlt HH HW
      go_wp2_with fail
      refine bodyPost_ret (results_tmp rfl _ _ _) rfl ⟨true, rfl, fun _ => ⟨unhide HBL, unhide HR⟩, unhide HB⟩

end Go.Proofs.Ytdemagijhmbdcaa
end

section
namespace Go.Proofs.Ytdemagijhmbdcaa
open Go.ChangeShapes Go.WideShapes Go.ChangeAt Go.RowKit
attribute [local go_sem] Oper.semAt_some

theorem mem_ins : ∀ {a : List Atm} {x : Int}, Atm.p x ∈ insD a → Atm.p x ∈ a
  | [], x, h => by simp [insD] at h
  | .k :: a, x, h => by simp [insD] at h; simp [h]
  | .d :: a, x, h => by simp [insD] at h; simp [h]
  | .p y :: a, x, h => by
    simp only [insD, List.mem_cons] at h ⊢
    rcases h with h | h
    · exact .inl h
    · exact .inr (mem_ins h)
theorem mem_nf : ∀ {a : List Atm} {x : Int}, Atm.p x ∈ nfA a → Atm.p x ∈ a
  | [], x, h => by simp [nfA] at h
  | .k :: a, x, h => by simp only [nfA, List.mem_cons] at h ⊢; exact h.elim .inl fun h => .inr (mem_nf h)
  | .p y :: a, x, h => by simp only [nfA, List.mem_cons] at h ⊢; exact h.elim .inl fun h => .inr (mem_nf h)
  | .d :: a, x, h => by simp only [nfA] at h; exact List.mem_cons_of_mem _ (mem_nf (mem_ins h))
theorem mem_puts : ∀ {b : List Atm} {x : Int}, Atm.p x ∈ putsA b → Atm.p x ∈ b
  | [], x, h => by simp [putsA] at h
  | .k :: b, x, h => by simp only [putsA] at h; exact List.mem_cons_of_mem _ (mem_puts h)
  | .d :: b, x, h => by simp only [putsA] at h; exact List.mem_cons_of_mem _ (mem_puts h)
  | .p y :: b, x, h => by simp only [putsA, List.mem_cons] at h ⊢; exact h.elim .inl fun h => .inr (mem_puts h)
theorem mem_thr {P : Int → Prop} {f : List Atm → List Atm} {y : Option Int} (hy : ∀ z, y = some z → P z) (hf : ∀ (b : List Atm), (∀ z, Atm.p z ∈ b → P z) → ∀ z, Atm.p z ∈ f b → P z) : ∀ (b : List Atm), (∀ z, Atm.p z ∈ b → P z) → ∀ z, Atm.p z ∈ thrA f y b → P z
  | [], hb, z, h => hf [] hb z (by simpa [thrA] using h)
  | .p x :: b, hb, z, h => by
    simp only [thrA, List.mem_cons] at h
    rcases h with h | h
    · exact hb z (by simp [h])
    · exact mem_thr hy hf b (fun q hq => hb q (by simp [hq])) z h
  | .k :: b, hb, z, h => by
    simp only [thrA, List.mem_cons] at h
    rcases h with h | h
    · cases y with
      | none => cases h
      | some q => simp at h; exact hy z (by rw [h])
    · exact hf b (fun q hq => hb q (by simp [hq])) z h
  | .d :: b, hb, z, h => by
    cases y with
    | none => simp [thrA] at h; exact hf b (fun q hq => hb q (by simp [hq])) z h
    | some q => simp only [thrA] at h; exact hf b (fun q hq => hb q (by simp [hq])) z h
theorem mem_cmp {P : Int → Prop} : ∀ (a : List Atm), (∀ z, Atm.p z ∈ a → P z) → ∀ (b : List Atm), (∀ z, Atm.p z ∈ b → P z) → ∀ z, Atm.p z ∈ cmpA a b → P z
  | [], _, b, hb, z, h => hb z (mem_puts h)
  | .d :: a, ha, b, hb, z, h => by
    simp [cmpA] at h
    exact mem_cmp a (fun q hq => ha q (by simp [hq])) b hb z h
  | .k :: a, ha, b, hb, z, h => mem_thr (y := none) (fun q hq => by cases hq) (mem_cmp a (fun q hq => ha q (by simp [hq]))) b hb z h
  | .p y :: a, ha, b, hb, z, h => mem_thr (y := some y) (fun q hq => by cases hq; exact ha y (by simp)) (mem_cmp a (fun q hq => ha q (by simp [hq]))) b hb z h
def By1 (x : Int) : Prop := 0 ≤ x ∧ x ≤ 255
theorem dA_by {d : List Dop} (h : ∀ o ∈ d, TbD o) : ∀ z, Atm.p z ∈ dA d → By1 z := fun z hz => by
  obtain ⟨o, ho, hm⟩ := List.mem_flatMap.1 hz
  unfold opA at hm
  split at hm
  · exact absurd (List.eq_of_mem_replicate hm) (by simp)
  · split at hm
    · obtain ⟨y, hy, e⟩ := List.mem_map.1 hm
      cases e
      exact h o ho z hy
    · exact absurd (List.eq_of_mem_replicate hm) (by simp)
theorem canA_tb {u : List Atm} (h : ∀ z, Atm.p z ∈ u → By1 z) : ∀ o ∈ canA u, TbD o := fun o ho x hx => by
  rcases (canA_can u).p o ho with ⟨_, _, h3⟩ | ⟨h1, _, _⟩
  · rw [h3] at hx; simp at hx
  · refine h x (mem_nf ?_)
    rw [← canA_atoms]
    exact List.mem_flatMap.2 ⟨o, ho, by simp only [opA, h1]; simp; exact hx⟩
theorem own13H (a : Option Addr) (c : Nat) (d : List Dop) (w : World) (h : IsO w a d) (hb : d.length * 32 ≤ 140737488355328) :
    Calls Try.prog 9 #[.slice a d.length c] w fun y w' => ∃ a' c', y = .returned (.slice a' d.length c') ∧ (IsO w' a' d ∧ d.length ≤ c') ∧ Below w.heap.size w w' :=
  (own13_at a c d w h h.some hb).mono fun y w' ⟨v, e, ho, x⟩ => by
    obtain ⟨a', c', rfl, hi, hc⟩ := own_isOC ho
    exact ⟨a', c', e, ⟨hi, hc⟩, x⟩
theorem ComposeO_at (a : Option Addr) (c : Nat) (d : List Dop) (a' : Option Addr) (c' : Nat) (e : List Dop) (w : World) (h : IsO w a d ∧ d.length ≤ c) (h' : IsO w a' e ∧ e.length ≤ c') (hl : d.length ≤ 4611686018427387904) (hl' : e.length ≤ 4611686018427387904) :
    Calls Try.prog 12 #[.slice a d.length c, .slice a' e.length c'] w fun y w' => ∃ a2 c2, y = .returned (.tuple #[.slice a2 (cmD d e).length c2, .int .i64 (cmE d e)]) ∧ IsO w' a2 (cmD d e) ∧ Below w.heap.size w w' :=
  (Compose_atD a c d a' c' e w h.1 h'.1 h.2 h'.2 hl hl').mono fun y w' ⟨v, e, ho, x⟩ => by
    obtain ⟨a', c', rfl, hi, _⟩ := own_isOC ho
    exact ⟨a', c', e, hi, x⟩
/-- what fits -/
theorem fit_zero {d : List Dop} {n : Nat} (hv : valB d = true) (hf : frD d = n) : fitE d n = 0 := by unfold fitE; rw [hv, hf]; simp
theorem ap_zero {d : List Dop} {b : List Int} (hv : valB d = true) (hf : frD d = b.length) : apE b d = apD b d := by unfold apE; rw [fit_zero hv hf]; simp
theorem val_small {d : List Dop} (hv : valB d = true) : d.length ≤ 4611686018427387904 ∧ d.length * 32 ≤ 140737488355328 := by have := val_len hv; omega
/-- two deltas one behind the other -/
structure TwoD (A C : List Dop) : Prop where
  e : cmE A C = 0
  d : cmD A C = canA (cmpA (dA A) (dA C))
  v : valB (cmD A C) = true
  f : frD (cmD A C) = frD A
  t : toD (cmD A C) = toD C
  a : dA (cmD A C) = nfA (cmpA (dA A) (dA C))
  q : toA (dA A) = frA (dA C)
theorem two_ok {A C : List Dop} (hA : valB A = true) (hC : valB C = true) (hf : toD A = frD C) : TwoD A C := by
  have he : cmE A C = 0 := by unfold cmE; rw [hA, hC, hf]; simp
  have hd : cmD A C = canA (cmpA (dA A) (dA C)) := by unfold cmD; rw [if_pos he]
  obtain ⟨s1, s2, s3, _⟩ := cmp_sizes hA hC hf
  have h5 := (valB_nn hA).2
  have h6 := (valB_nn hC).2
  obtain ⟨v1, v2, v3, v4⟩ := canA_val (u := cmpA (dA A) (dA C)) (by omega) (by omega)
  exact ⟨he, hd, by rw [hd]; exact v1, by rw [hd]; omega, by rw [hd]; omega, by rw [hd]; exact v4, s1⟩
theorem two_tb {A C : List Dop} (hA : ∀ o ∈ A, TbD o) (hC : ∀ o ∈ C, TbD o) : ∀ o ∈ cmD A C, TbD o := by
  unfold cmD
  split
  · exact canA_tb (mem_cmp _ (dA_by hA) _ (dA_by hC))
  · simp
theorem two_app {A C : List Dop} {b : List Int} (hA : valB A = true) (hC : valB C = true) (hf : toD A = frD C) (hb : frD A = b.length) : apD b (cmD A C) = apD (apD b A) C := by
  have h := two_ok hA hC hf
  have k := frA_dA (valB_k hA)
  rw [apD_is h.v (h.f.trans hb), h.a, app_nf, app_cmp _ _ _ (by omega) h.q, ← apD_is hA hb, ← apD_is hC (by rw [ap_len hA hb]; exact hf.symm)]
end Go.Proofs.Ytdemagijhmbdcaa
end

section
namespace Go.Proofs.Ytdemagijhmbdcaa
open Go.ChangeShapes Go.WideShapes Go.ChangeAt Go.RowKit
attribute [local go_sem] Oper.semAt_some

theorem RAddG_at (a : Option Addr) (c : Nat) (d : List Dop) (k n : Int) (t : List Int) (w : World) (h : IsO w a d) (hc : d.length ≤ c) (ok : AdOk d n t) (hno : ¬ noD k n t) :
    Calls Try.prog 51 #[.slice a d.length c, .int .i64 k, .int .i64 n, .string (strOfNums t)] w fun y w' => ∃ v, y = .returned v ∧ w'.ownsRow w.heap.size 34 3 v (addD d k n t).length (opsV (addD d k n t)) ∧ Below w.heap.size w w' := by
  have hl := ok.l
  have hs : ∀ (e : List Dop) (m : Int), (∀ x ∈ e, x ∈ d) → (m = n ∨ m = 0) → ∀ x, e.getLast? = some x → (-4611686018427387904 ≤ x.n + m ∧ x.n + m ≤ 4611686018427387904) ∧ x.t.length + t.length ≤ 4611686018427387904 := fun e m hsub hm x hx => by
    have hmem := hsub x (List.mem_of_getLast? hx)
    have h1 := ok.xn x hmem
    have h2 := ok.xt x hmem
    have h3 := pln_n (ok.c.p x hmem)
    have h4 := ok.nn
    have h5 := ok.tt
    rcases hm with rfl | rfl <;> omega
  by_cases hdr : ∃ x, d.getLast? = some x ∧ k = 2 ∧ x.k = 3
  · obtain ⟨x, hx, rfl, hx3⟩ := hdr
    obtain ⟨e, x', rfl⟩ := list_snoc (d := d) (fun e => by rw [e] at hx; simp at hx)
    obtain rfl : x' = x := by simpa using hx
    have ht : t ≠ [] := fun e => hno (.inl ⟨rfl, e⟩)
    have hlen := add1_len e 2 0 t
    rw [addD_put ht hx3]
    rw [List.length_append, List.length_singleton] at hl hc ⊢
    refine (RAdd4_at a c e x' n t w h hx3 ht hc (fun X a1 c1 hX => ?_) (by omega) (by omega))
    refine RAdd1_at a1 c1 e 2 0 t X hX (fun hh => by rcases hh with ⟨_, hh⟩ | ⟨hh, _⟩; exact ht hh; exact hh rfl) (fun z hz hh => ?_) (by omega) (hs e 0 (fun z hz => by simp [hz]) (.inr rfl))
    exact (chn_mid (d := e) (x := z) (o := x') (r := []) ok.c.c hz).1 (by rw [hh.2, hx3])
  · have hx : ∀ x, d.getLast? = some x → ¬ (k = 2 ∧ x.k = 3) := fun x hx hh => hdr ⟨x, hx, hh⟩
    rw [addD_one hno hx]
    exact (RAdd1_at a c d k n t w h hno hx (by omega) (hs d n (fun z hz => hz) (.inl rfl)))


theorem cmp_puts_nf : ∀ (t : List Int) (u s : List Atm), nfA (cmpA u (t.map .p ++ s)) = nfA (t.map .p ++ cmpA u s)
  | [], _, _ => by simp
  | x :: t, u, s => by
    rw [List.map_cons, List.cons_append, List.cons_append, cmp_put, cmp_puts_nf t u s]
    rfl
/-- what is left of the first operation -/
def cutO (o : Dop) (s : Nat) : Dop := if o.k = 1 then ⟨1, o.n - s, []⟩ else ⟨2, 0, o.t.drop s⟩
def cutR (o : Dop) (r : List Dop) (s : Nat) : List Dop := if s = szO o then r else cutO o s :: r
theorem cut_ok {o : Dop} {r : List Dop} {s : Nat} (hp : ∀ q ∈ o :: r, Pln q ∧ szO q ≤ 536870912) (hk : o.k = 1 ∨ o.k = 2) (hs : 1 ≤ s ∧ s ≤ szO o) : dA (o :: r) = runR o.k (o.t.take s) s ++ dA (cutR o r s) ∧ (∀ q ∈ cutR o r s, Pln q ∧ szO q ≤ 536870912) ∧ (o.k = 2 → (o.t.take s).length = s) := by
  have hP := (hp o (by simp)).1
  have hr : ∀ q ∈ r, Pln q ∧ szO q ≤ 536870912 := fun q hq => hp q (by simp [hq])
  rcases hk with hk | hk
  · obtain ⟨h1, h2, h3⟩ := szO_k hP (by omega)
    have eo : opA o = List.replicate o.n.toNat .k := by simp [opA, hk]
    refine ⟨?_, ?_, fun h => by omega⟩
    · rw [dA_cons, eo]
      simp only [runR, hk, if_true]
      unfold cutR
      split
      · rename_i h; rw [h, h1]
      · rw [dA_cons, show opA (cutO o s) = List.replicate (o.n.toNat - s) .k by simp only [cutO, hk, if_true, opA]; congr 1; omega, ← List.append_assoc, List.replicate_append_replicate]
        congr 2; omega
    · unfold cutR
      split
      · exact hr
      · intro q hq
        rcases List.mem_cons.1 hq with rfl | hq
        · have : Pln (cutO o s) := by simp only [cutO, hk, if_true]; exact .inl ⟨.inl rfl, by dsimp only; omega, rfl⟩
          refine ⟨this, ?_⟩
          have e := (szO_k this (by simp [cutO, hk])).1
          have := (hp o (by simp)).2
          simp only [cutO, hk, if_true] at e ⊢
          omega
        · exact hr q hq
  · obtain ⟨h1, h2, h3⟩ := szO_p hP hk
    have eo : opA o = o.t.map .p := by simp [opA, hk]
    refine ⟨?_, ?_, fun _ => by simp; omega⟩
    · rw [dA_cons, eo]
      simp only [runR, hk, show ¬ ((2 : Int) = 1) by decide, if_false, if_true]
      unfold cutR
      split
      · rename_i h; rw [List.take_of_length_le (by omega)]
      · rw [dA_cons, show opA (cutO o s) = (o.t.drop s).map .p by simp [cutO, hk, opA], ← List.append_assoc, ← List.map_append, List.take_append_drop]
    · unfold cutR
      split
      · exact hr
      · intro q hq
        rcases List.mem_cons.1 hq with rfl | hq
        · have : Pln (cutO o s) := by
            simp only [cutO, hk, show ¬ ((2 : Int) = 1) by decide, if_false]
            exact .inr ⟨rfl, rfl, fun e => by have := congrArg List.length e; simp at this; omega⟩
          refine ⟨this, ?_⟩
          have e := (szO_p this (by simp [cutO, hk])).1
          have := (hp o (by simp)).2
          simp only [cutO, hk, show ¬ ((2 : Int) = 1) by decide, if_false] at e ⊢
          simp at e
          omega
        · exact hr q hq
/-- in the midst of it: what is left of a, the atoms that are left of b, what is written -/
structure CoK (C : List Atm) (r : List Dop) (sb acc : List Atm) : Prop where
  e : nfA (acc ++ cmpA (dA r) sb) = nfA C
  q : toA (dA r) = frA sb
  p : ∀ o ∈ r, Pln o ∧ szO o ≤ 536870912
theorem CoK.len {C : List Atm} {r : List Dop} {sb acc : List Atm} (h : CoK C r sb acc) : acc.length ≤ C.length := by
  have := congrArg List.length h.e
  rw [nf_len, nf_len, List.length_append] at this
  omega
theorem CoK.put {C : List Atm} {r : List Dop} {sb acc : List Atm} {t : List Int} (h : CoK C r (t.map .p ++ sb) acc) : CoK C r sb (acc ++ t.map .p) := by
  refine ⟨?_, ?_, h.p⟩
  · rw [← h.e, List.append_assoc]
    exact (nf_app_left acc (cmp_puts_nf t _ _)).symm
  · have := h.q
    rw [fr_app, (fr_map_p t).1, Nat.zero_add] at this
    exact this
theorem CoK.drop {C : List Atm} {o : Dop} {r : List Dop} {sb acc : List Atm} (h : CoK C (o :: r) sb acc) (hk : o.k = 3) : CoK C r sb (acc ++ List.replicate o.n.toNat .d) := by
  have eo : opA o = List.replicate o.n.toNat .d := by simp [opA, hk]
  have he := h.e
  have hq := h.q
  rw [dA_cons, eo] at he hq
  rw [cmp_drops, ← List.append_assoc] at he
  rw [to_app, (fr_rep_d _).2, Nat.zero_add] at hq
  exact ⟨he, hq, fun q hq => h.p q (by simp [hq])⟩
/-- what a run of both writes -/
theorem CoK.both {C : List Atm} {o : Dop} {r : List Dop} {sb acc : List Atm} {kt : Int} {n s : Nat} (h : CoK C (o :: r) (runR kt [] n ++ sb) acc) (kf : o.k = 1 ∨ o.k = 2) (hkt : kt = 1 ∨ kt = 3) (hs : s = min (szO o) n) (hn : 1 ≤ n) : CoK C (cutR o r s) (runR kt [] (n - s) ++ sb) (acc ++ outT o.k kt (o.t.take s) s) := by
  have h1 := (szO_i (h.p o (by simp)).1).2
  obtain ⟨c1, c2, c3⟩ := cut_ok (r := r) h.p kf (s := s) (by omega)
  have e1 : runR kt [] n = runR kt [] s ++ runR kt [] (n - s) := by
    rcases hkt with rfl | rfl
    · show List.replicate n _ = List.replicate s _ ++ List.replicate (n - s) _
      rw [List.replicate_append_replicate]; congr 1; omega
    · show List.replicate n _ = List.replicate s _ ++ List.replicate (n - s) _
      rw [List.replicate_append_replicate]; congr 1; omega
  have he := h.e
  have hq := h.q
  rw [c1, e1, List.append_assoc] at he hq
  have s1 := run_sizes o.k (o.t.take s) s c3
  have s2 := run_sizes kt [] s (fun h => by omega)
  rw [to_app, fr_app] at hq
  refine ⟨?_, ?_, c2⟩
  · rw [← he, List.append_assoc]
    congr 2
    rcases kf with kf | kf <;> rcases hkt with rfl | rfl <;> rw [kf]
    · exact (cmp_kk s _ _).symm
    · exact (cmp_kd s _ _).symm
    · have := cmp_pk (o.t.take s) (dA (cutR o r s)) (runR 1 [] (n - s) ++ sb)
      rw [c3 kf] at this
      exact this.symm
    · have := cmp_pd (o.t.take s) (dA (cutR o r s)) (runR 3 [] (n - s) ++ sb)
      rw [c3 kf] at this
      exact this.symm
  · rcases kf with kf | kf <;> rcases hkt with rfl | rfl
    · rw [(s1.1 kf).2, (s2.1 rfl).1] at hq; omega
    · rw [(s1.1 kf).2, (s2.2.2 rfl).1] at hq; omega
    · rw [(s1.2.1 kf).2, (s2.1 rfl).1] at hq; omega
    · rw [(s1.2.1 kf).2, (s2.2.2 rfl).1] at hq; omega
/-- the rest of a in a row of the call's own, from a place on -/
structure IsRs (B : Nat) (X : World) (g off : Nat) (r : List Dop) : Prop where
  c : ∃ cs, X.heap[g]? = some (.cells cs 34 (0, 0)) ∧ ∀ j, j < r.length * 3 → cs[off + j]? = (opsV r)[j]?
  b : B ≤ g
theorem IsRs.same {B : Nat} {X Y : World} {g off : Nat} {r : List Dop} (h : IsRs B X g off r) (hs : Y.heap[g]? = X.heap[g]?) : IsRs B Y g off r := by
  obtain ⟨cs, h1, h2⟩ := h.c
  exact ⟨⟨cs, hs.trans h1, h2⟩, h.b⟩
theorem IsRs.lt {B : Nat} {X : World} {g off : Nat} {r : List Dop} (h : IsRs B X g off r) : g < X.heap.size := by obtain ⟨cs, h1, _⟩ := h.c; exact (Array.getElem?_eq_some_iff.1 h1).1
theorem IsRs.hd {B : Nat} {X : World} {g off : Nat} {o : Dop} {r : List Dop} (h : IsRs B X g off (o :: r)) : (X.cell? ⟨g, off, none⟩ = some (.int .i64 o.k) ∧ X.cell? ⟨g, off + 1, none⟩ = some (.int .i64 o.n) ∧ X.cell? ⟨g, off + 2, none⟩ = some (.string (strOfNums o.t))) ∧ ∀ j, X.frozen? ⟨g, j, none⟩ = false := by
  obtain ⟨cs, h1, h2⟩ := h.c
  have e : ∀ j, j < 3 → X.cell? ⟨g, off + j, none⟩ = (opsV (o :: r))[j]? := fun j hj => by
    simp only [World.cell?, h1]
    exact h2 j (by simp; omega)
  exact ⟨⟨e 0 (by decide), e 1 (by decide), e 2 (by decide)⟩, fun j => by simp [World.frozen?, h1]⟩
theorem IsRs.tl {B : Nat} {X : World} {g off : Nat} {o : Dop} {r : List Dop} (h : IsRs B X g off (o :: r)) : IsRs B X g (off + 3) r := by
  obtain ⟨cs, h1, h2⟩ := h.c
  refine ⟨⟨cs, h1, fun j hj => ?_⟩, h.b⟩
  have := h2 (j + 3) (by simp; omega)
  rw [show off + 3 + j = off + (j + 3) by omega, this]
  simp [opsV, opL]
theorem IsRs.set {B : Nat} {X : World} {g off : Nat} {o o' : Dop} {r : List Dop} (h : IsRs B X g off (o :: r)) (j : Nat) (u : Value) (hj : j < 3) (he : (opL o).set j u = opL o') : IsRs B (X.setCell ⟨g, off + j, none⟩ u) g off (o' :: r) := by
  obtain ⟨cs, h1, h2⟩ := h.c
  refine ⟨⟨_, heap_set h1 u, fun i hi => ?_⟩, h.b⟩
  have hi' : i < (o :: r).length * 3 := hi
  have e0 := h2 i hi'
  have hl : off + j < cs.size := by
    have := h2 j (by simp; omega)
    have hv : ((opsV (o :: r))[j]?).isSome := by simp [opsV, opL]; omega
    rw [← this] at hv
    simpa using hv
  have e1 : opsV (o' :: r) = (opsV (o :: r)).set j u := by
    simp only [opsV, List.flatMap_cons]
    rw [← he, List.set_append_left _ _ (by simpa [opL] using hj)]
  rw [e1]
  by_cases hij : i = j
  · subst hij
    rw [List.getElem?_set_self (by rw [opsV_len]; exact hi')]
    simp [hl]
  · rw [List.getElem?_set_ne (by omega)]
    simp only [Array.getElem?_setIfInBounds]
    rw [if_neg (by omega)]
    exact e0

end Go.Proofs.Ytdemagijhmbdcaa
end
