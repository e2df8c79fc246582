/- Layer 9: a rope's Pieces: its iterator. · Layer 9: a rope's Bytes. · Layer 9: Bytes of a nil rope and of no places; galleylaw09.text. · Layer 9: bytes.Equal; the rope's Same. · Layer 9: a rope's Replace. · Layer 9: halves of a tip (written by wip/tools/rpu.py). · Layer 9: shortest, First (written by wip/tools/rpv.py from rpv.base). · Layer 9: a rope's First. · Layer 9: galleylaw09.wakes. -/
import Derived.Test.YteamaneompijkaaGreatDoorSa34
namespace Go.Proofs.YteamaneompijkaaGreatDoor
open Go.ChangeShapes Go.WideShapes Go.ChangeAt Go.RowKit
set_option maxRecDepth 100000
set_option maxHeartbeats 8000000
section
attribute [local go_sem] Oper.semAt_some taTF taTT taFF taFT taNF taNT
def TopV (w : World) (rp v : Value) : Prop := (rp = .pointer none ∧ v = .nilIface) ∨ ∃ g, rp = .pointer (some ⟨g, 0, none⟩) ∧ w.heap[g]? = some (.cells #[v] 121 (0, 0))
def RoV (w : World) (rp : Value) (o : Option Nd) : Prop := ∃ v, TopV w rp v ∧ NdV w v o
theorem TopV.on {w w' : World} {rp v : Value} (h : TopV w rp v) (hb : Below w.heap.size w w') : TopV w' rp v := by
  rcases h with h | ⟨g, e, h⟩
  · exact Or.inl h
  · exact Or.inr ⟨g, e, bk9_on h hb⟩
theorem topV9_at (rp v : Value) (w : World) (h : TopV w rp v) : Calls Tryz.prog 40 #[rp] w fun y w' => y = .returned v ∧ w' = w := by
  rcases h with ⟨rfl, rfl⟩ | ⟨g, rfl, h⟩
  · exact topN9_at w
  · exact top9_at g v w h
theorem sizeO9_at (v : Value) (o : Option Nd) (w : World) (h : NdV w v o) : Calls Tryz.prog 47 #[v] w fun y w' => y = .returned (.int .i64 ((txtO o).length : Int)) ∧ Below w.heap.size w w' := by
  cases o with
  | none =>
    obtain rfl : v = .nilIface := h
    refine (sizeN9_at w).mono ?_
    rintro y w' ⟨rfl, rfl⟩
    exact ⟨rfl, Below.refl _ _⟩
  | some t => exact size9_at v t w h
structure PcB (w : World) (B : Nat) (v : Value) (n : Int) (back : Bool) : Prop where
  f : w.cell? ⟨B, 0, none⟩ = some (.int .i64 n)
  k : w.cell? ⟨B + 1, 0, none⟩ = some (.bool back)
  r : w.cell? ⟨B + 2, 0, none⟩ = some v
theorem PcB.on {w w' : World} {B : Nat} {v : Value} {n : Int} {back : Bool} (h : PcB w B v n back) (hb : Below w.heap.size w w') : PcB w' B v n back :=
  ⟨(hb.cell (p := ⟨B, 0, none⟩) (lt_cell h.f)).trans h.f, (hb.cell (p := ⟨B + 1, 0, none⟩) (lt_cell h.k)).trans h.k, (hb.cell (p := ⟨B + 2, 0, none⟩) (lt_cell h.r)).trans h.r⟩
def pcsV (B : Nat) : Value := .func (.func 81) #[] #[.pointer (some ⟨B, 0, none⟩), .pointer (some ⟨B + 2, 0, none⟩), .pointer (some ⟨B + 1, 0, none⟩)]
theorem Pieces9_at (rp v : Value) (o : Option Nd) (n : Int) (back : Bool) (w : World) (h1 : TopV w rp v) (h2 : NdV w v o) :
    Calls Tryz.prog 46 #[rp, .int .i64 n, .bool back] w fun y w' => y = .returned (pcsV w.heap.size) ∧ PcB w' w.heap.size v n back ∧ w'.heap.size = w.heap.size + 3 ∧ Below w.heap.size w w' := by
  have hfm := h2.form
  obtain ⟨w1, hw1⟩ : ∃ w1, w1 = w.alloc (.cells #[.int .i64 n] 3) := ⟨_, rfl⟩
  obtain ⟨w2, hw2⟩ : ∃ w2, w2 = w1.alloc (.cells #[.bool back] 4) := ⟨_, rfl⟩
  have x1 : Below w.heap.size w w1 := hw1 ▸ (Below.refl w.heap.size w).alloc (Nat.le_refl _) _
  have x2 : Below w1.heap.size w1 w2 := hw2 ▸ (Below.refl w1.heap.size w1).alloc (Nat.le_refl _) _
  have z1 : w1.heap.size = w.heap.size + 1 := hw1 ▸ World.size_alloc ..
  have z2 : w2.heap.size = w.heap.size + 2 := by rw [hw2, World.size_alloc, z1]
  have x12 := x1.trans (x2.mono x1.size)
  have HT := hide (topV9_at rp v w2 (h1.on x12))
  have k1 : w1.heap[w.heap.size]? = some (.cells #[.int .i64 n] 3) := hw1 ▸ push_get w _
  have k2 : w2.heap[w.heap.size + 1]? = some (.cells #[.bool back] 4) := by have := push_get w1 (.cells #[.bool back] 4); rw [z1] at this; rw [hw2]; exact this
  have k1 := bk9_on k1 x2
  have x3 := (Below.refl w2.heap.size w2).alloc (Nat.le_refl _) (.cells #[v] 95)
  have k3 := push_get w2 (.cells #[v] 95)
  have x123 := x12.trans (x3.mono x12.size)
  have HP : Hid (PcB (w2.alloc (.cells #[v] 95)) w.heap.size v n back) := hide ⟨by simp only [World.cell?, bk9_on k1 x3]; rfl, by simp only [World.cell?, bk9_on k2 x3]; rfl, by rw [z2] at k3; simp only [World.cell?, k3]; rfl⟩
  have HX := hide x123
  have HZ : Hid ((w2.alloc (.cells #[v] 95)).heap.size = w.heap.size + 3) := hide (by rw [World.size_alloc, z2])
  clear h1 h2 x1 x2 x12 x3 x123 k1 k2 k3 z1
  rcases hfm with rfl | ⟨T, u, rfl⟩
  all_goals
    go_enter Tryz.func46, Tryz.ntmps46
    go_wp2_with fail
    rw [← hw1, ← hw2]
    refine (unhide HT).mono ?_
    rintro y w3 ⟨rfl, rfl⟩
    dsimp only
    go_wp2_with fail
    subst hw1
    subst hw2
    refine bodyPost_ret (v := pcsV w.heap.size) (by simp [results, Tryz.results46, go_sem, pcsV]) rfl ⟨rfl, unhide HP, unhide HZ, unhide HX⟩
def pcsE (o : Option Nd) (n : Int) (back : Bool) : List (List Int) :=
  if n < 0 ∨ ((txtO o).length : Int) < n then [] else match o with | none => [] | some t => if back then bwdP t n.toNat else fwdP t n.toNat
theorem pcsE_none (n : Int) (back : Bool) : pcsE none n back = [] := by unfold pcsE; split <;> rfl
theorem pcsE_back {t : Nd} {f : Nat} (h : f ≤ (txtO (some t)).length) : pcsE (some t) (f : Int) true = bwdP t f := by unfold pcsE; rw [if_neg (by omega)]; rfl
theorem pcsE_on {t : Nd} {f : Nat} (h : f ≤ (txtO (some t)).length) : pcsE (some t) (f : Int) false = fwdP t f := by unfold pcsE; rw [if_neg (by omega)]; rfl
theorem fwdN_at (n f : Value) (w : World) : Calls Tryz.prog 83 #[.nilIface, n, f] w fun y w' => y = .returned (.bool true) ∧ w' = w := by
  go_enter Tryz.func83, Tryz.ntmps83
  go_wp2_with fail
  go_ret
  exact ⟨rfl, rfl⟩
theorem bwdN_at (n f : Value) (w : World) : Calls Tryz.prog 82 #[.nilIface, n, f] w fun y w' => y = .returned (.bool true) ∧ w' = w := by
  go_enter Tryz.func82, Tryz.ntmps82
  go_wp2_with fail
  go_ret
  exact ⟨rfl, rfl⟩
theorem pieces1_P (W0 : World) (B : Nat) (v : Value) (o : Option Nd) (n : Int) (back : Bool) (N : Nat) (q : Nat → Prop) (w : World) (hP : PcB w B v n back) (hV : NdV W0 v o) (hm : (txtO o).length ≤ 268435456) (h0 : Below W0.heap.size W0 w) (h0N : W0.heap.size ≤ N) (hN : N ≤ w.heap.size) :
    SeqP Tryz.prog 81 #[.pointer (some ⟨B, 0, none⟩), .pointer (some ⟨B + 2, 0, none⟩), .pointer (some ⟨B + 1, 0, none⟩)] N q (pcsE o n back) w := by
  intro lo J Jx W hW hJ hJx hY hj m
  refine callsIn_wide.2 ?_
  have hP1 := hP.on hW
  have hV1 := NdV.on (h0.trans (hW.mono h0.size)) hV
  have hB1 := h0.trans (hW.mono h0.size)
  have hNW := Nat.le_trans hN hW.size
  clear hP hW h0
  have D0 : Below W.heap.size W W.drew := (Below.refl W.heap.size W).drew
  have HSW : Hid (∀ X : World, Below W.heap.size W X → (fun w' => w'.cell? ⟨B, 0, none⟩ = some (.int .i64 n) ∧ w'.cell? ⟨B + 2, 0, none⟩ = some v) X) := hide fun X hx => ⟨(hP1.on hx).f, (hP1.on hx).r⟩
  have HP := hide fun (X : World) (hx : Below W.heap.size W X) => hP1.on hx
  have HV := hide fun (X : World) (hx : Below W.heap.size W X) => NdV.on hx hV1
  have HJ := hide fun (X : World) (hx : Below W.heap.size W X) => hJ _ _ _ hj hx
  clear hP1
  show Calls Tryz.prog 81 #[.func (.yield lo) #[] #[], .pointer (some ⟨B, 0, none⟩), .pointer (some ⟨B + 2, 0, none⟩), .pointer (some ⟨B + 1, 0, none⟩)] W _
  by_cases c0 : n < 0
  · have e1 : pcsE o n back = [] := by unfold pcsE; rw [if_pos (Or.inl c0)]
    rw [e1]
    have t1 : decide (n < 0) = true := decide_eq_true c0
    clear hV hV1 hB1 hY hj hJ hJx
    go_enter Tryz.func81, Tryz.ntmps81
    go_upto_region 0 with fail
    refine regionL (S := fun w' => w'.cell? ⟨B, 0, none⟩ = some (.int .i64 n) ∧ w'.cell? ⟨B + 2, 0, none⟩ = some v) (fun _ => false) (by kernel_rfl) ?_
    generalize W.drew = y0 at *
    refine anyL_take (i := 0) (v := ?vpp0) rfl (by kernel_rfl) (by kernel_rfl) (by kernel_rfl) (by kernel_rfl) (fun _ _ _ h => h) (Or.inl ⟨by rfl, ?hpp0⟩) (unhide HSW _ D0) ?_
    case hpp0 => (intro w hSw; (try dsimp only at hSw); go_simp) <;> with_reducible rfl
    simp only [Act.put, List.getElem_toArray, List.getElem_cons_zero, List.setIfInBounds_toArray, List.set_cons_zero, List.set_cons_succ]
    refine anyL_take (i := 1) (v := ?vpp1) rfl (by kernel_rfl) (by kernel_rfl) (by kernel_rfl) (by kernel_rfl) (fun _ _ _ h => h) (Or.inl ⟨by rfl, ?hpp1⟩) (unhide HSW _ D0) ?_
    case hpp1 => (intro w hSw; (try dsimp only at hSw); go_simp) <;> with_reducible rfl
    simp only [Act.put, List.getElem_toArray, List.getElem_cons_zero, List.getElem_cons_succ, List.setIfInBounds_toArray, List.set_cons_zero, List.set_cons_succ]
    refine anyL_take (i := 2) (v := ?vpp2) rfl (by kernel_rfl) (by kernel_rfl) (by kernel_rfl) (by kernel_rfl) (fun _ _ _ h => h) (Or.inl ⟨by rfl, ?hpp2⟩) (unhide HSW _ D0) ?_
    case hpp2 => (intro w hSw; (try dsimp only at hSw); go_simp) <;> with_reducible rfl
    simp only [Act.put, List.getElem_toArray, List.getElem_cons_zero, List.getElem_cons_succ, List.setIfInBounds_toArray, List.set_cons_zero, List.set_cons_succ]
    refine anyL_take (i := 3) (v := undef) rfl (by kernel_rfl) (by kernel_rfl) (by kernel_rfl) (by kernel_rfl) (fun _ _ _ h => h) (Or.inr ⟨by rfl, rfl⟩) (unhide HSW _ D0) ?_
    simp only [Act.put, List.getElem_toArray, List.getElem_cons_zero, List.getElem_cons_succ, List.setIfInBounds_toArray, List.set_cons_zero, List.set_cons_succ]
    refine anyL_take (i := 4) (v := undef) rfl (by kernel_rfl) (by kernel_rfl) (by kernel_rfl) (by kernel_rfl) (fun _ _ _ h => h) (Or.inr ⟨by rfl, rfl⟩) (unhide HSW _ D0) ?_
    simp only [Act.put, List.getElem_toArray, List.getElem_cons_zero, List.getElem_cons_succ, List.setIfInBounds_toArray, List.set_cons_zero, List.set_cons_succ]
    refine anyL_take (i := 5) (v := undef) rfl (by kernel_rfl) (by kernel_rfl) (by kernel_rfl) (by kernel_rfl) (fun _ _ _ h => h) (Or.inr ⟨by rfl, rfl⟩) (unhide HSW _ D0) ?_
    simp only [Act.put, List.getElem_toArray, List.getElem_cons_zero, List.getElem_cons_succ, List.setIfInBounds_toArray, List.set_cons_zero, List.set_cons_succ]
    refine anyL_take (i := 6) (v := undef) rfl (by kernel_rfl) (by kernel_rfl) (by kernel_rfl) (by kernel_rfl) (fun _ _ _ h => h) (Or.inr ⟨by rfl, rfl⟩) (unhide HSW _ D0) ?_
    simp only [Act.put, List.getElem_toArray, List.getElem_cons_zero, List.getElem_cons_succ, List.setIfInBounds_toArray, List.set_cons_zero, List.set_cons_succ]
    refine anyL_take (i := 7) (v := ?vpp7) rfl (by kernel_rfl) (by kernel_rfl) (by kernel_rfl) (by kernel_rfl) (fun _ _ _ h => h) (Or.inl ⟨by rfl, ?hpp7⟩) (unhide HSW _ D0) ?_
    case hpp7 => (intro w hSw; (try dsimp only at hSw); go_simp) <;> with_reducible rfl
    simp only [Act.put, List.getElem_toArray, List.getElem_cons_zero, List.getElem_cons_succ, List.setIfInBounds_toArray, List.set_cons_zero, List.set_cons_succ]
    refine anyL_done (by kernel_rfl) ?_ _
    go_wp2_with fail
    first
    | refine bodyPost_ret (results_none rfl _ _ _) rfl ⟨⟨_, rfl⟩, .inl (unhide HJ _ D0)⟩
    | refine bodyPost_end (results_none rfl _ _ _) rfl ⟨⟨_, rfl⟩, .inl (unhide HJ _ D0)⟩
  · have t1 : decide (n < 0) = false := decide_eq_false c0
    by_cases c1 : ((txtO o).length : Int) < n
    · have e1 : pcsE o n back = [] := by unfold pcsE; rw [if_pos (Or.inr c1)]
      rw [e1]
      have t2 : decide (((txtO o).length : Int) < n) = true := decide_eq_true c1
      clear hV hV1 hB1 hY hj hJ hJx
      go_enter Tryz.func81, Tryz.ntmps81
      go_upto_region 0 with fail
      refine regionL (S := fun w' => w'.cell? ⟨B, 0, none⟩ = some (.int .i64 n) ∧ w'.cell? ⟨B + 2, 0, none⟩ = some v) (fun _ => false) (by kernel_rfl) ?_
      generalize W.drew = y0 at *
      refine anyL_take (i := 0) (v := ?vpp8) rfl (by kernel_rfl) (by kernel_rfl) (by kernel_rfl) (by kernel_rfl) (fun _ _ _ h => h) (Or.inl ⟨by rfl, ?hpp8⟩) (unhide HSW _ D0) ?_
      case hpp8 => (intro w hSw; (try dsimp only at hSw); go_simp) <;> with_reducible rfl
      simp only [Act.put, List.getElem_toArray, List.getElem_cons_zero, List.setIfInBounds_toArray, List.set_cons_zero, List.set_cons_succ]
      refine anyL_take (i := 1) (v := ?vpp9) rfl (by kernel_rfl) (by kernel_rfl) (by kernel_rfl) (by kernel_rfl) (fun _ _ _ h => h) (Or.inl ⟨by rfl, ?hpp9⟩) (unhide HSW _ D0) ?_
      case hpp9 => (intro w hSw; (try dsimp only at hSw); go_simp) <;> with_reducible rfl
      simp only [Act.put, List.getElem_toArray, List.getElem_cons_zero, List.getElem_cons_succ, List.setIfInBounds_toArray, List.set_cons_zero, List.set_cons_succ]
      refine anyL_take (i := 2) (v := ?vpp10) rfl (by kernel_rfl) (by kernel_rfl) (by kernel_rfl) (by kernel_rfl) (fun _ _ _ h => h) (Or.inl ⟨by rfl, ?hpp10⟩) (unhide HSW _ D0) ?_
      case hpp10 => (intro w hSw; (try dsimp only at hSw); go_simp) <;> with_reducible rfl
      simp only [Act.put, List.getElem_toArray, List.getElem_cons_zero, List.getElem_cons_succ, List.setIfInBounds_toArray, List.set_cons_zero, List.set_cons_succ]
      refine anyL_take (i := 3) (v := ?vpp11) rfl (by kernel_rfl) (by kernel_rfl) (by kernel_rfl) (by kernel_rfl) (fun _ _ _ h => h) (Or.inl ⟨by rfl, ?hpp11⟩) (unhide HSW _ D0) ?_
      case hpp11 => (intro w hSw; (try dsimp only at hSw); go_simp) <;> with_reducible rfl
      simp only [Act.put, List.getElem_toArray, List.getElem_cons_zero, List.getElem_cons_succ, List.setIfInBounds_toArray, List.set_cons_zero, List.set_cons_succ]
      refine anyL_take (i := 4) (v := ?vpp12) rfl (by kernel_rfl) (by kernel_rfl) (by kernel_rfl) (by kernel_rfl) (fun _ _ _ h => h) (Or.inl ⟨by rfl, ?hpp12⟩) (unhide HSW _ D0) ?_
      case hpp12 => (intro w hSw; (try dsimp only at hSw); go_simp) <;> with_reducible rfl
      simp only [Act.put, List.getElem_toArray, List.getElem_cons_zero, List.getElem_cons_succ, List.setIfInBounds_toArray, List.set_cons_zero, List.set_cons_succ]
      refine anyL_ready (rs := [5]) (by kernel_rfl) (by simp) ?_
      refine AllL.cons rfl (fun K hK => ?_) AllL.nil
      go_simp
      refine (sizeO9_at v o _ (unhide HV _ D0)).mono ?_
      rintro e y1 ⟨rfl, x1⟩
      have D1 := D0.trans (x1.mono D0.size)
      refine unhide hK _ _ (fun _ => unhide HSW _ D1) ?_
      clear hK K x1
      refine anyL_take (i := 6) (v := ?vpp13) rfl (by kernel_rfl) (by kernel_rfl) (by kernel_rfl) (by kernel_rfl) (fun _ _ _ h => h) (Or.inl ⟨by rfl, ?hpp13⟩) (unhide HSW _ D1) ?_
      case hpp13 => (intro w hSw; (try dsimp only at hSw); go_simp) <;> with_reducible rfl
      simp only [Act.put, List.getElem_toArray, List.getElem_cons_zero, List.getElem_cons_succ, List.setIfInBounds_toArray, List.set_cons_zero, List.set_cons_succ]
      refine anyL_take (i := 7) (v := ?vpp14) rfl (by kernel_rfl) (by kernel_rfl) (by kernel_rfl) (by kernel_rfl) (fun _ _ _ h => h) (Or.inl ⟨by rfl, ?hpp14⟩) (unhide HSW _ D1) ?_
      case hpp14 => (intro w hSw; (try dsimp only at hSw); go_simp) <;> with_reducible rfl
      simp only [Act.put, List.getElem_toArray, List.getElem_cons_zero, List.getElem_cons_succ, List.setIfInBounds_toArray, List.set_cons_zero, List.set_cons_succ]
      refine anyL_done (by kernel_rfl) ?_ _
      go_wp2_with fail
      first
      | refine bodyPost_ret (results_none rfl _ _ _) rfl ⟨⟨_, rfl⟩, .inl (unhide HJ _ D1)⟩
      | refine bodyPost_end (results_none rfl _ _ _) rfl ⟨⟨_, rfl⟩, .inl (unhide HJ _ D1)⟩
    · have t2 : decide (((txtO o).length : Int) < n) = false := decide_eq_false c1
      obtain ⟨f, rfl⟩ : ∃ f : Nat, n = (f : Int) := ⟨n.toNat, by omega⟩
      have hfl : f ≤ (txtO o).length := by omega
      have HR : Hid (∀ y1 : World, Below W.heap.size W y1 → Calls Tryz.prog (if back then 82 else 83) #[v, .int .i64 (f : Int), .func (.yield lo) #[] #[]] y1 fun e w' => (∃ v, e = .returned v) ∧ (J (pcsE o (f : Int) back) w' ∨ ∃ pre, pre <+: pcsE o (f : Int) back ∧ Jx pre w')) := hide fun y1 D1 => by
        have hz := D1.size
        cases o with
        | none =>
          obtain rfl : v = .nilIface := hV
          rw [pcsE_none]
          cases back with
          | true =>
            refine (bwdN_at _ _ y1).mono ?_
            rintro y w' ⟨rfl, rfl⟩
            exact ⟨⟨_, rfl⟩, .inl (unhide HJ _ D1)⟩
          | false =>
            refine (fwdN_at _ _ y1).mono ?_
            rintro y w' ⟨rfl, rfl⟩
            exact ⟨⟨_, rfl⟩, .inl (unhide HJ _ D1)⟩
        | some t =>
          cases back with
          | true =>
            have e2 : pcsE (some t) (f : Int) true = bwdP t f := pcsE_back hfl
            rw [e2] at hY ⊢
            refine (backwards9_at W0 lo W.heap.size N q J Jx (bwdP t f) hJ hY h0N t v f [] y1 hV hm hfl (hB1.trans (D1.mono hB1.size)) hz (by omega) (unhide HJ _ D1) (by simp)).mono ?_
            rintro y w' ⟨_, (⟨rfl, h⟩ | ⟨rfl, p, hp, h⟩)⟩
            · exact ⟨⟨_, rfl⟩, .inl (by simpa using h)⟩
            · exact ⟨⟨_, rfl⟩, .inr ⟨p, hp, h⟩⟩
          | false =>
            have e2 : pcsE (some t) (f : Int) false = fwdP t f := pcsE_on hfl
            rw [e2] at hY ⊢
            refine (forwards9_at W0 lo W.heap.size N q J Jx (fwdP t f) hJ hY h0N t v f [] y1 hV hm (Nat.le_trans hfl hm) (hB1.trans (D1.mono hB1.size)) hz (by omega) (unhide HJ _ D1) (by simp)).mono ?_
            rintro y w' ⟨_, (⟨rfl, h⟩ | ⟨rfl, p, hp, h⟩)⟩
            · exact ⟨⟨_, rfl⟩, .inl (by simpa using h)⟩
            · exact ⟨⟨_, rfl⟩, .inr ⟨p, hp, h⟩⟩
      generalize pcsE o (f : Int) back = E at *
      clear hV hV1 hB1 hY hj hJ hJx HJ
      go_enter Tryz.func81, Tryz.ntmps81
      go_upto_region 0 with fail
      refine regionL (S := fun w' => w'.cell? ⟨B, 0, none⟩ = some (.int .i64 (f : Int)) ∧ w'.cell? ⟨B + 2, 0, none⟩ = some v) (fun _ => false) (by kernel_rfl) ?_
      generalize W.drew = y0 at *
      refine anyL_take (i := 0) (v := ?vpn0) rfl (by kernel_rfl) (by kernel_rfl) (by kernel_rfl) (by kernel_rfl) (fun _ _ _ h => h) (Or.inl ⟨by rfl, ?hpn0⟩) (unhide HSW _ D0) ?_
      case hpn0 => (intro w hSw; (try dsimp only at hSw); go_simp) <;> with_reducible rfl
      simp only [Act.put, List.getElem_toArray, List.getElem_cons_zero, List.setIfInBounds_toArray, List.set_cons_zero, List.set_cons_succ]
      refine anyL_take (i := 1) (v := ?vpn1) rfl (by kernel_rfl) (by kernel_rfl) (by kernel_rfl) (by kernel_rfl) (fun _ _ _ h => h) (Or.inl ⟨by rfl, ?hpn1⟩) (unhide HSW _ D0) ?_
      case hpn1 => (intro w hSw; (try dsimp only at hSw); go_simp) <;> with_reducible rfl
      simp only [Act.put, List.getElem_toArray, List.getElem_cons_zero, List.getElem_cons_succ, List.setIfInBounds_toArray, List.set_cons_zero, List.set_cons_succ]
      refine anyL_take (i := 2) (v := ?vpn2) rfl (by kernel_rfl) (by kernel_rfl) (by kernel_rfl) (by kernel_rfl) (fun _ _ _ h => h) (Or.inl ⟨by rfl, ?hpn2⟩) (unhide HSW _ D0) ?_
      case hpn2 => (intro w hSw; (try dsimp only at hSw); go_simp) <;> with_reducible rfl
      simp only [Act.put, List.getElem_toArray, List.getElem_cons_zero, List.getElem_cons_succ, List.setIfInBounds_toArray, List.set_cons_zero, List.set_cons_succ]
      refine anyL_take (i := 3) (v := ?vpn3) rfl (by kernel_rfl) (by kernel_rfl) (by kernel_rfl) (by kernel_rfl) (fun _ _ _ h => h) (Or.inl ⟨by rfl, ?hpn3⟩) (unhide HSW _ D0) ?_
      case hpn3 => (intro w hSw; (try dsimp only at hSw); go_simp) <;> with_reducible rfl
      simp only [Act.put, List.getElem_toArray, List.getElem_cons_zero, List.getElem_cons_succ, List.setIfInBounds_toArray, List.set_cons_zero, List.set_cons_succ]
      refine anyL_take (i := 4) (v := ?vpn4) rfl (by kernel_rfl) (by kernel_rfl) (by kernel_rfl) (by kernel_rfl) (fun _ _ _ h => h) (Or.inl ⟨by rfl, ?hpn4⟩) (unhide HSW _ D0) ?_
      case hpn4 => (intro w hSw; (try dsimp only at hSw); go_simp) <;> with_reducible rfl
      simp only [Act.put, List.getElem_toArray, List.getElem_cons_zero, List.getElem_cons_succ, List.setIfInBounds_toArray, List.set_cons_zero, List.set_cons_succ]
      refine anyL_ready (rs := [5]) (by kernel_rfl) (by simp) ?_
      refine AllL.cons rfl (fun K hK => ?_) AllL.nil
      go_simp
      refine (sizeO9_at v o _ (unhide HV _ D0)).mono ?_
      rintro e y1 ⟨rfl, x1⟩
      have D1 := D0.trans (x1.mono D0.size)
      refine unhide hK _ _ (fun _ => unhide HSW _ D1) ?_
      clear hK K x1
      refine anyL_take (i := 6) (v := ?vpn5) rfl (by kernel_rfl) (by kernel_rfl) (by kernel_rfl) (by kernel_rfl) (fun _ _ _ h => h) (Or.inl ⟨by rfl, ?hpn5⟩) (unhide HSW _ D1) ?_
      case hpn5 => (intro w hSw; (try dsimp only at hSw); go_simp) <;> with_reducible rfl
      simp only [Act.put, List.getElem_toArray, List.getElem_cons_zero, List.getElem_cons_succ, List.setIfInBounds_toArray, List.set_cons_zero, List.set_cons_succ]
      refine anyL_take (i := 7) (v := ?vpn6) rfl (by kernel_rfl) (by kernel_rfl) (by kernel_rfl) (by kernel_rfl) (fun _ _ _ h => h) (Or.inl ⟨by rfl, ?hpn6⟩) (unhide HSW _ D1) ?_
      case hpn6 => (intro w hSw; (try dsimp only at hSw); go_simp) <;> with_reducible rfl
      simp only [Act.put, List.getElem_toArray, List.getElem_cons_zero, List.getElem_cons_succ, List.setIfInBounds_toArray, List.set_cons_zero, List.set_cons_succ]
      refine anyL_done (by kernel_rfl) ?_ _
      have hp := unhide HP y1 D1
      have p1 := hp.f
      have p2 := hp.k
      have p3 := hp.r
      have HR1 := hide (unhide HR y1 D1)
      clear hp HR
      cases back with
      | true =>
        go_wp2_with fail
        refine (unhide HR1).mono ?_
        rintro y w2 ⟨⟨v, rfl⟩, h⟩
        dsimp only
        go_wp2_with fail
        first
        | refine bodyPost_ret (results_none rfl _ _ _) rfl ⟨⟨_, rfl⟩, h⟩
        | refine bodyPost_end (results_none rfl _ _ _) rfl ⟨⟨_, rfl⟩, h⟩
      | false =>
        go_wp2_with fail
        refine (unhide HR1).mono ?_
        rintro y w2 ⟨⟨v, rfl⟩, h⟩
        dsimp only
        go_wp2_with fail
        first
        | refine bodyPost_ret (results_none rfl _ _ _) rfl ⟨⟨_, rfl⟩, h⟩
        | refine bodyPost_end (results_none rfl _ _ _) rfl ⟨⟨_, rfl⟩, h⟩
end
section
attribute [local go_sem] Oper.semAt_some
def Cb (W : World) (B : Nat) (t : TypeId) (v : Value) : Prop := W.heap[B]? = some (.cells #[v] t (0, 0))
theorem Cb.lt {W : World} {B : Nat} {t : TypeId} {v : Value} (h : Cb W B t v) : B < W.heap.size := (Array.getElem?_eq_some_iff.1 h).1
theorem Cb.cell {W : World} {B : Nat} {t : TypeId} {v : Value} (h : Cb W B t v) : W.cell? ⟨B, 0, none⟩ = some v := by simp [World.cell?, show W.heap[B]? = _ from h]
theorem Cb.frozen {W : World} {B : Nat} {t : TypeId} {v : Value} (h : Cb W B t v) : W.frozen? ⟨B, 0, none⟩ = false := by simp [World.frozen?, show W.heap[B]? = _ from h]
theorem Cb.new (W : World) (t : TypeId) (v : Value) : Cb (W.alloc (.cells #[v] t)) W.heap.size t v := World.alloc_heap_new W _
theorem Cb.same {W W' : World} {B : Nat} {t : TypeId} {v : Value} (h : Cb W B t v) (hb : W'.heap[B]? = W.heap[B]?) : Cb W' B t v := hb.trans h
theorem Cb.below {W W' : World} {B N : Nat} {t : TypeId} {v : Value} (h : Cb W B t v) (hb : Below N W W') (hB : B < N) : Cb W' B t v := h.same (hb.block B hB)
theorem Cb.on {W W' : World} {B : Nat} {t : TypeId} {v : Value} (h : Cb W B t v) (hb : Below W.heap.size W W') : Cb W' B t v := h.below hb h.lt
theorem Cb.alloc {W : World} {B : Nat} {t : TypeId} {v : Value} (h : Cb W B t v) (o : Obj) : Cb (W.alloc o) B t v := h.same (Below.heap_alloc W o B h.lt)
theorem Cb.other {W : World} {B : Nat} {t : TypeId} {v : Value} (h : Cb W B t v) (p : Addr) (u : Value) (hp : B ≠ p.block) : Cb (W.setCell p u) B t v := h.same (Below.heap_setCell W p u B hp)
theorem Cb.set {W : World} {B : Nat} {t : TypeId} {v : Value} (h : Cb W B t v) (u : Value) : Cb (W.setCell ⟨B, 0, none⟩ u) B t u := by
  have hl := h.lt
  show (W.heap.modify B _)[B]? = _
  rw [Array.getElem?_eq_getElem (by rw [Array.size_modify]; exact hl), Array.getElem_modify_self]
  have := h
  unfold Cb at this
  rw [Array.getElem?_eq_getElem hl] at this
  rw [Option.some.inj this]
  rfl
theorem Own.same {w w' : World} {B : Nat} {v : Value} {l : List Int} (h : Own w B v l) (hs : ∀ G, v.ownBlock = some G → w'.heap[G]? = w.heap[G]?) : Own w' B v l := by
  refine ⟨h.1, ?_⟩
  rcases h.2 with h2 | ⟨g, cap, cur, e, h3, h4, h5⟩
  · exact Or.inl h2
  · exact Or.inr ⟨g, cap, cur, e, h3, (hs g (by rw [e]; rfl)).trans h4, h5⟩
theorem Own.low {w : World} {B B' : Nat} {v : Value} {l : List Int} (h : Own w B v l) (hB : B' ≤ B) : Own w B' v l := by
  refine ⟨h.1, ?_⟩
  rcases h.2 with h2 | ⟨g, cap, cur, e, h3, h4, h5⟩
  · exact Or.inl h2
  · exact Or.inr ⟨g, cap, cur, e, Nat.le_trans hB h3, h4, h5⟩
theorem Own.at {w : World} {B : Nat} {v : Value} {l : List Int} (h : Own w B v l) : ∀ G, v.ownBlock = some G → B ≤ G ∧ G < w.heap.size := by
  intro G e
  rcases h.2 with ⟨rfl, _⟩ | ⟨g, cap, cur, rfl, h3, h4, _⟩
  · cases e
  · cases e
    exact ⟨h3, (Array.getElem?_eq_some_iff.1 h4).1⟩
theorem Own.len {w : World} {B : Nat} {v : Value} {l : List Int} (h : Own w B v l) : ∃ a c, v = .slice a l.length c := by
  rcases h.2 with ⟨rfl, h0⟩ | ⟨g, cap, cur, rfl, _⟩
  · exact ⟨none, 0, by rw [h0]⟩
  · exact ⟨_, _, rfl⟩
theorem wpListIn_append9 {F : Fence} {n : Nat} {P : Program} {w : World} {ops : Array Oper} {rest : List Oper} {o : Oper} {a : Act} {Q : Exit → Act → World → Prop}
    (hg : o.guard = none) (s x : Operand) (t tx : TypeId) (hop : o.op = Op.call { callee := Callee.builtin Builtin.append, args := #[s, x], argTypes := #[t, tx] }) (v u : Value) (hs : a.eval s = v) (hx : a.eval x = u) (v' : Value) (w' : World)
    (hr : (Builtin.append_ #[t, tx] o.type #[v, u]).run P w = .ok v' w') (h : wpListIn F n P ops Q rest (a.put o.dst v') w') : wpListIn F n P ops Q (o :: rest) a w := by
  refine wpListIn_plain hg fun K hK' => ?_
  unfold Oper.wpIn
  refine ⟨?_, ?_⟩
  · simp [Oper.about, hop, resolve, Target.leads, Sem.run_pure]
  · rw [Oper.semAt_plain F _ _ (by rw [hop]; intro c hc'; cases hc')]
    simp [execOp, hop, resolve, invoke, builtin, hs, hx, hr, Result.andThen]
    exact hK' _ _ h
structure ByI (w : World) (n A L : Nat) (i j : Nat) (pre : List (List Int)) (X : World) : Prop where
  lo : Cb X n 3 (.int .i64 (i : Int))
  hi : Cb X (n + 1) 3 (.int .i64 (j : Int))
  rs : Cb X (n + 1 + 1) 30 (.slice none 0 0)
  er : Cb X (n + 1 + 1 + 1) 49 (.int .i64 0)
  a : ∃ v, Cb X A 30 v ∧ Own X (n + 4) v pre.flatten ∧ ∀ G, v.ownBlock = some G → G ≠ A ∧ (G < L ∨ L + 2 ≤ G)
  le : pre.flatten.length ≤ j - i
  b : Below n w X
theorem ByI.abd {w : World} {n A L lo hi : Nat} (h1 : n + 4 ≤ A) (h2 : A < L) : AbdL L (ByI w n A L lo hi) := fun _ X Y h hb => by
  obtain ⟨v, h3, h4, h5⟩ := h.a
  refine ⟨h.lo.below hb.1 (by omega), h.hi.below hb.1 (by omega), h.rs.below hb.1 (by omega), h.er.below hb.1 (by omega), ⟨v, h3.below hb.1 h2, h4.same fun G hG => ?_, h5⟩, h.le, h.b.trans (hb.1.mono (by omega))⟩
  rcases (h5 G hG).2 with h | h
  · exact hb.1.block G h
  · exact hb.2 G h (h4.at G hG).2
structure ByX (w : World) (n L : Nat) (R : List Int) (c : Code) (_pre : List (List Int)) (X : World) : Prop where
  c : c = Code.ret
  a : ∃ v, Cb X (n + 1 + 1) 30 v ∧ Own X (n + 4) v R ∧ ∀ G, v.ownBlock = some G → G < L ∨ L + 2 ≤ G
  er : Cb X (n + 1 + 1 + 1) 49 (.int .i64 0)
  b : Below n w X
theorem ByX.abd {w : World} {n L : Nat} {R : List Int} (h1 : n + 4 ≤ L) (c : Code) : AbdL L (ByX w n L R c) := fun _ X Y h hb => by
  obtain ⟨v, h3, h4, h5⟩ := h.a
  refine ⟨h.c, ⟨v, h3.below hb.1 (by omega), h4.same fun G hG => ?_, h5⟩, h.er.below hb.1 (by omega), h.b.trans (hb.1.mono (by omega))⟩
  rcases h5 G hG with h | h
  · exact hb.1.block G h
  · exact hb.2 G h (h4.at G hG).2
theorem make_u8P (w : World) (c : Nat) (hc : c ≤ 70368744177664) : ∃ w', (Instr.makeSlice 30 (.int .i64 0) (.int .i64 (c : Int))).run Tryz.prog w = .ok (.slice (some ⟨w.heap.size, 0, none⟩) 0 c) w' ∧ Own w' w.heap.size (.slice (some ⟨w.heap.size, 0, none⟩) 0 c) [] ∧ Below w.heap.size w w' ∧ w.heap.size < w'.heap.size := by
  obtain ⟨i, hi, hz, hs, hby⟩ := info_u8
  obtain ⟨w', h1, h2, h3⟩ := run_make_own (P := Tryz.prog) w w.heap.size 30 5 i (.int .u8 0) 1 Tryz.underlying30 hi hz hs .i64 .i64 c (by rw [hby]; omega) (by unfold maxLen; omega) (Nat.le_refl _)
  exact ⟨w', h1, h2, (Below.refl _ w).grown h3 (Nat.le_refl _) (fun k e => by cases e), (Own.at (l := []) (v := .slice (some ⟨w.heap.size, 0, none⟩) 0 c) h2 _ rfl).2⟩
theorem BytesR9_at (g : Nat) (o : Option Nd) (lo hi : Nat) (w : World) (h : IsRo w g o) (h1 : lo ≤ hi) (h2 : hi ≤ (txtO o).length) (hm : (txtO o).length ≤ 268435456) :
    Calls Tryz.prog 17 #[.pointer (some ⟨g, 0, none⟩), .int .i64 (lo : Int), .int .i64 (hi : Int)] w fun y w' => ∃ v, y = .returned (.tuple #[v, .int .i64 0]) ∧ Own w' w.heap.size v (((txtO o).drop lo).take (hi - lo)) ∧ Below w.heap.size w w' := by
  refine (callsIn_wide (n := 4)).1 ?_
  refine callsIn_of_wp_marks Tryz.func17 rfl trivial ?_ rfl
  simp only [Tryz.ntmps17, List.size_toArray, List.length_cons, List.length_nil, Nat.reduceAdd, Nat.reduceSub, Array.replicate_succ, Array.replicate_zero, List.push_toArray, List.append_toArray, List.nil_append, List.cons_append]
  refine wpIn_wide.2 ?_
  have H := hide h
  obtain ⟨rv, hr1, hr2⟩ := h
  have HT := hide (And.intro hr1 hr2)
  clear hr1 hr2
  have HM := hide (And.intro h1 (And.intro h2 hm))
  have hdi : (hi : Int) - (lo : Int) = ((hi - lo : Nat) : Int) := by omega
  have hdw : IntKind.i64.wrap ((hi - lo : Nat) : Int) = ((hi - lo : Nat) : Int) := by rw [IntKind.wrap_i64]; omega
  have hdc : hi - lo ≤ 268435456 := by omega
  generalize hd : hi - lo = d at *
  go_upto_region 1 with fail
  obtain ⟨c0, c1, c2, c3, b4, z4⟩ : Cb ((((w.alloc (.cells #[.int .i64 (lo : Int)] 3)).alloc (.cells #[.int .i64 (hi : Int)] 3)).alloc (.cells #[.slice none 0 0] 30)).alloc (.cells #[.int .i64 0] 49)) w.heap.size 3 (.int .i64 (lo : Int)) ∧ Cb ((((w.alloc (.cells #[.int .i64 (lo : Int)] 3)).alloc (.cells #[.int .i64 (hi : Int)] 3)).alloc (.cells #[.slice none 0 0] 30)).alloc (.cells #[.int .i64 0] 49)) (w.heap.size + 1) 3 (.int .i64 (hi : Int)) ∧ Cb ((((w.alloc (.cells #[.int .i64 (lo : Int)] 3)).alloc (.cells #[.int .i64 (hi : Int)] 3)).alloc (.cells #[.slice none 0 0] 30)).alloc (.cells #[.int .i64 0] 49)) (w.heap.size + 2) 30 (.slice none 0 0) ∧ Cb ((((w.alloc (.cells #[.int .i64 (lo : Int)] 3)).alloc (.cells #[.int .i64 (hi : Int)] 3)).alloc (.cells #[.slice none 0 0] 30)).alloc (.cells #[.int .i64 0] 49)) (w.heap.size + 3) 49 (.int .i64 0) ∧ Below w.heap.size w ((((w.alloc (.cells #[.int .i64 (lo : Int)] 3)).alloc (.cells #[.int .i64 (hi : Int)] 3)).alloc (.cells #[.slice none 0 0] 30)).alloc (.cells #[.int .i64 0] 49)) ∧ ((((w.alloc (.cells #[.int .i64 (lo : Int)] 3)).alloc (.cells #[.int .i64 (hi : Int)] 3)).alloc (.cells #[.slice none 0 0] 30)).alloc (.cells #[.int .i64 0] 49)).heap.size = w.heap.size + 4 := by
    refine ⟨(((Cb.new _ _ _).alloc _).alloc _).alloc _, ?_, ?_, ?_, ((((Below.refl _ w).alloc (Nat.le_refl _) _).alloc (by simp) _).alloc (by simp; omega) _).alloc (by simp; omega) _, by simp⟩
    · have := ((Cb.new (w.alloc (.cells #[.int .i64 (lo : Int)] 3)) 3 (.int .i64 (hi : Int))).alloc (.cells #[.slice none 0 0] 30)).alloc (.cells #[.int .i64 0] 49)
      simpa using this
    · have := (Cb.new ((w.alloc (.cells #[.int .i64 (lo : Int)] 3)).alloc (.cells #[.int .i64 (hi : Int)] 3)) 30 (.slice none 0 0)).alloc (.cells #[.int .i64 0] 49)
      simpa using this
    · have := Cb.new (((w.alloc (.cells #[.int .i64 (lo : Int)] 3)).alloc (.cells #[.int .i64 (hi : Int)] 3)).alloc (.cells #[.slice none 0 0] 30)) 49 (.int .i64 0)
      simpa using this
  generalize (((w.alloc (.cells #[.int .i64 (lo : Int)] 3)).alloc (.cells #[.int .i64 (hi : Int)] 3)).alloc (.cells #[.slice none 0 0] 30)).alloc (.cells #[.int .i64 0] 49) = W4 at *
  generalize hn : w.heap.size = n at *
  have p0 := c0.cell
  have p1 := c1.cell
  have hsp := span9_at g o (lo : Int) (hi : Int) W4 ((unhide H).on (hn ▸ b4))
  rw [show spanE (txtO o).length (lo : Int) (hi : Int) = 0 by unfold spanE; rw [if_neg (by omega)]] at hsp
  have HS := hide hsp
  clear hsp h1 h2 hm
  go_wp2_with fail
  refine (unhide HS).mono ?_
  rintro y w5 ⟨rfl, x5⟩
  dsimp only
  have c0 := c0.on x5
  have c1 := c1.on x5
  have c2 := c2.on x5
  have c3 := c3.on x5
  have b5 := b4.trans (x5.mono (by omega))
  have z5 := x5.size
  rw [z4] at z5
  clear x5 b4 z4 HS p0 p1
  have p0 := c0.cell
  have p1 := c1.cell
  obtain ⟨w6, r6, o6, x6, l6⟩ := make_u8P w5 d (by omega)
  go_upto_region 5 with fail
  have x7 := (Below.refl w6.heap.size w6).alloc (Nat.le_refl _) (.cells #[.slice (some ⟨w5.heap.size, 0, none⟩) 0 d] 30)
  have c4 := Cb.new w6 30 (.slice (some ⟨w5.heap.size, 0, none⟩) 0 d)
  have z7 : (w6.alloc (.cells #[.slice (some ⟨w5.heap.size, 0, none⟩) 0 d] 30)).heap.size = w6.heap.size + 1 := World.size_alloc ..
  generalize w6.alloc (.cells #[.slice (some ⟨w5.heap.size, 0, none⟩) 0 d] 30) = w7 at *
  have x57 := x6.trans (x7.mono x6.size)
  have o7 := o6.below x7
  have c0 := c0.on x57
  have c1 := c1.on x57
  have c2 := c2.on x57
  have c3 := c3.on x57
  have b7 := b5.trans (x57.mono (by omega))
  have HP := hide (Pieces9_at (.pointer (some ⟨g, 0, none⟩)) rv o (lo : Int) false w7 (Or.inr ⟨g, rfl, bk9_on (unhide HT).1 (hn ▸ b7)⟩) (NdV.on (hn ▸ b7) (unhide HT).2))
  clear p0 p1 r6
  have p0 := c0.cell
  go_wp2_with fail
  refine (unhide HP).mono ?_
  rintro y w8 ⟨rfl, hpc, z8, x8⟩
  dsimp only
  have hseq := pieces1_P w w7.heap.size rv o (lo : Int) false n (fun _ => False) w8 hpc (unhide HT).2 (unhide HM).2.2 (hn ▸ b7.trans (x8.mono (by omega))) (by omega) (by omega)
  have c0 := c0.on x8
  have c1 := c1.on x8
  have c2 := c2.on x8
  have c3 := c3.on x8
  have c4 := c4.on x8
  have o8 := o7.below x8
  have b8 := b7.trans (x8.mono (by omega))
  have i0 : ByI w n w6.heap.size w8.heap.size lo hi [] w8 := ⟨c0, c1, c2, c3, ⟨_, c4, Own.low o8 (by omega), fun G hG => by cases hG; exact ⟨by show w5.heap.size ≠ w6.heap.size; omega, Or.inl (by show w5.heap.size < w8.heap.size; omega)⟩⟩, Nat.zero_le _, b8⟩
  have hE : (pcsE o (lo : Int) false).flatten = (txtO o).drop lo := by
    cases o with
    | none => rw [pcsE_none]; simp [txtO]
    | some t => rw [pcsE_on (by have := unhide HM; omega), fwdP_flat]; rfl
  clear hpc c0 c1 c2 c3 c4 o8 o7 o6 x8 b8 b7 x57 x7 x6 b5 p0 HP
  have hA : n + 4 ≤ w6.heap.size := by omega
  have hAL : w6.heap.size < w8.heap.size := by omega
  generalize hAe : w6.heap.size = A at *
  clear hAe
  unfold pcsV
  generalize w7.heap.size = B at *
  clear l6 z5 z7
  go_wp2_with fail
  generalize w5.heap.size = G0 at *
  have hBN : n + 4 ≤ w8.heap.size := by omega
  have hsum : ∀ (pre : List (List Int)) (x : List Int), pre ++ [x] <+: pcsE o (lo : Int) false → pre.flatten.length + x.length ≤ (txtO o).length - lo ∧ (pre.flatten ++ x) = ((txtO o).drop lo).take (pre.flatten.length + x.length) := by
    rintro pre x ⟨r, hr⟩
    have h1 := congrArg List.flatten hr
    rw [hE] at h1
    simp only [List.flatten_append, List.flatten_cons, List.flatten_nil, List.append_nil] at h1
    have h2 := congrArg List.length h1
    simp only [List.length_append, List.length_drop] at h2
    refine ⟨by omega, ?_⟩
    rw [← h1, ← List.length_append, List.take_left']
    rfl
  have HSUM := hide hsum
  clear hsum z8
  refine (wpIn_wide (n := 4)).1 ?_
  refine range_p (gf := 81) (lb := #[.pointer (some ⟨B, 0, none⟩), .pointer (some ⟨B + 2, 0, none⟩), .pointer (some ⟨B + 1, 0, none⟩)]) rfl (enters_of Tryz.func81 (by kernel_rfl) rfl) hseq (Below.refl _ _) (by omega) (fun k hk => hk.elim) rfl
    (ByI w n A w8.heap.size lo hi) (ByX w n w8.heap.size (((txtO o).drop lo).take d)) (ByI.abd hA hAL) (ByX.abd hBN) i0 (by decide)
    (fun v a _ => a = { tmps := #[.pointer (some ⟨g, 0, none⟩), .int .i64 (lo : Int), .int .i64 (hi : Int), undef, .pointer (some ⟨n, 0, none⟩), .pointer (some ⟨n + 1, 0, none⟩), .pointer (some ⟨n + 1 + 1, 0, none⟩), .pointer (some ⟨n + 1 + 1 + 1, 0, none⟩), .int .i64 0, .pointer (some ⟨A, 0, none⟩), v, undef, .pointer (some ⟨g, 0, none⟩), .int .i64 (lo : Int), .int .i64 (hi : Int), .int .i64 0, .int .i64 0, .bool false, undef, .int .i64 (hi : Int), .int .i64 (lo : Int), .int .i64 (d : Int), .slice (some ⟨G0, 0, none⟩) 0 d, .pointer (some ⟨g, 0, none⟩), .int .i64 (lo : Int), .func (.func 81) #[] #[.pointer (some ⟨B, 0, none⟩), .pointer (some ⟨B + 2, 0, none⟩), .pointer (some ⟨B + 1, 0, none⟩)], v, undef, undef, undef, undef, undef, undef, undef, undef, undef, undef, undef, undef, undef, undef, undef, undef, undef, undef, undef], defers := [] }) ?hax ?assign ?body ?done ?stop
  case hax => exact fun v a' X k o o' hX h => h
  case assign =>
    rintro k pre x v X K hpre hi hsz hnw hK
    gi_wp2
    exact hK _ _ (Below.refl _ X) (by simp)
  case body =>
    rintro k pre x v a' X hk1 hk2 ⟨rec, hrec⟩ hpre hI hnw rfl hsz
    obtain ⟨hs1, hs2⟩ := unhide HSUM pre x hpre
    obtain ⟨u, ca, ou, hG⟩ := hI.a
    obtain ⟨gp, op, cp, rfl, hN, hg1, hg2⟩ := hnw
    have hle := hI.le
    rw [hd] at hle
    have hfl : (pre ++ [x]).flatten = pre.flatten ++ x := by simp
    have HFL := hide hfl
    obtain ⟨ua, uc, rfl⟩ := ou.len
    have q0 := hI.lo
    have q1 := hI.hi
    have q2 := hI.rs
    have q3 := hI.er
    have qb := hI.b
    clear hI hfl hrec
    generalize pre.flatten = R at *
    obtain ⟨lf, hlf⟩ : ∃ lf, lf = d - R.length := ⟨_, rfl⟩
    have hli : (d : Int) - (R.length : Int) = (lf : Int) := by omega
    have hlw : IntKind.i64.wrap (lf : Int) = (lf : Int) := by rw [IntKind.wrap_i64]; omega
    have e0 := q0.cell
    have e1 := q1.cell
    have ea := ca.cell
    have hcp := hN.1.1
    have hl1 : R.length + lf = d := by omega
    have HLF := hide (And.intro hlf hl1)
    clear hlf hl1
    by_cases c : lf ≤ x.length
    · have t1 : decide ((lf : Int) ≤ (x.length : Int)) = true := decide_eq_true (by omega)
      have t2 : (lf : Int) ≤ (x.length : Int) := by omega
      have hcl : lf ≤ cp := by omega
      have hxl : (x.take lf).length = lf := by rw [List.length_take]; omega
      have hRR : R ++ x.take lf = ((txtO o).drop lo).take d := by
        have := congrArg (List.take d) hs2
        have hlf := (unhide HLF).1
        have hl1 := (unhide HLF).2
        rw [List.take_append, List.take_of_length_le (l := R) (by omega), ← hlf, List.take_take, Nat.min_eq_left (by omega)] at this
        exact this
      gi_wp2_with fail
      have HS : Hid ((fun w' : World => w'.cell? ⟨A, 0, none⟩ = some (.slice ua R.length uc)) X.drew) := hide ea
      have ou0 : Own X.drew (n + 4) (.slice ua R.length uc) R := ou
      have hN0 : IsB X.drew (some ⟨gp, op, none⟩) cp (x.take lf) := IsB.takeP (n := lf) hN.1
      have q20 : Cb X.drew (n + 1 + 1) 30 (.slice none 0 0) := q2
      have q30 : Cb X.drew (n + 1 + 1 + 1) 49 (.int .i64 0) := q3
      have k0 : KN n (ownP (fun _ => False) w8.heap.size) X X.drew := ⟨(Below.refl n X).drew, fun _ _ _ => rfl⟩
      have z0 : X.drew.heap.size = X.heap.size := rfl
      refine regionL_in (S := fun w' => w'.cell? ⟨A, 0, none⟩ = some (.slice ua R.length uc)) (fun i => i == 4 || i == 5 || i == 6) (by kernel_rfl) ?hd ?hq ?_
      case hd =>
        intro j o c h e
        have := Array.mem_of_getElem? h
        simp only [List.mem_toArray, List.mem_cons, List.not_mem_nil, or_false] at this
        rcases this with rfl | rfl | rfl | rfl | rfl | rfl | rfl <;> cases e
      case hq => rintro ⟨a, w, h⟩; exact h
      clear ou hN q2 q3
      generalize X.drew = Y at *
      refine anyL_take (i := 0) (v := ?v0) rfl (by kernel_rfl) (by kernel_rfl) (by kernel_rfl) (by kernel_rfl) (fun _ _ _ h => h) (Or.inl ⟨by rfl, ?h0⟩) (unhide HS) ?_
      case h0 => (intro w hSw; (try dsimp only at hSw); go_simp) <;> with_reducible rfl
      simp only [Act.put, List.getElem_toArray, List.getElem_cons_zero, List.setIfInBounds_toArray, List.set_cons_zero, List.set_cons_succ]
      refine anyL_take (i := 1) (v := ?v1) rfl (by kernel_rfl) (by kernel_rfl) (by kernel_rfl) (by kernel_rfl) (fun _ _ _ h => h) (Or.inl ⟨by rfl, ?h1⟩) (unhide HS) ?_
      case h1 => (intro w hSw; (try dsimp only at hSw); go_simp) <;> with_reducible rfl
      simp only [Act.put, List.getElem_toArray, List.getElem_cons_zero, List.getElem_cons_succ, List.setIfInBounds_toArray, List.set_cons_zero, List.set_cons_succ]
      refine anyL_take (i := 2) (v := ?v2) rfl (by kernel_rfl) (by kernel_rfl) (by kernel_rfl) (by kernel_rfl) (fun _ _ _ h => h) (Or.inl ⟨by rfl, ?h2⟩) (unhide HS) ?_
      case h2 => (intro w hSw; (try dsimp only at hSw); go_simp) <;> with_reducible rfl
      simp only [Act.put, List.getElem_toArray, List.getElem_cons_zero, List.getElem_cons_succ, List.setIfInBounds_toArray, List.set_cons_zero, List.set_cons_succ]
      refine anyL_take (i := 3) (v := ?v3) rfl (by kernel_rfl) (by kernel_rfl) (by kernel_rfl) (by kernel_rfl) (fun _ _ _ h => h) (Or.inl ⟨by rfl, ?h3⟩) (unhide HS) ?_
      case h3 => (intro w hSw; (try dsimp only at hSw); go_simp) <;> with_reducible rfl
      simp only [Act.put, List.getElem_toArray, List.getElem_cons_zero, List.getElem_cons_succ, List.setIfInBounds_toArray, List.set_cons_zero, List.set_cons_succ]
      obtain ⟨v', Y1, r1, o1, b1, g1, h1⟩ := appG 30 ou0 (by omega) hN0 (by have := unhide HLF; omega)
      rw [hxl] at r1
      rw [hRR] at o1
      obtain ⟨va, NN, vc, rfl⟩ : ∃ a k c, v' = .slice a k c := by obtain ⟨a, c, h⟩ := o1.len; exact ⟨a, _, c, h⟩
      have q2 := q20.below b1 (by omega)
      have q3 := q30.below b1 (by omega)
      have k1 : KN n (ownP (fun _ => False) w8.heap.size) Y Y1 := ⟨b1.mono (by omega), fun k hk hl => g1.block k hl (fun e => by have := (hG k e.symm).2; rcases hk with h | h; exact h.elim; omega)⟩
      have k01 := k0.trans k1
      refine anyL_ready (rs := [4]) (by kernel_rfl) (by simp) ?_
      refine AllL.cons rfl (fun K hK => ?_) AllL.nil
      refine step_append_in rfl _ _ 30 30 rfl _ _ rfl rfl _ _ r1 ?_
      simp only [Act.put, List.getElem_toArray, List.getElem_cons_zero, List.getElem_cons_succ, List.setIfInBounds_toArray, List.set_cons_zero, List.set_cons_succ]
      refine unhide hK _ _ (fun h => absurd h (by decide)) ?_
      clear hK K r1 HS
      have f2 := q2.frozen
      have d2 := q2.cell
      refine anyL_ready (rs := [5]) (by kernel_rfl) (by simp) ?_
      refine AllL.cons rfl (fun K hK => ?_) AllL.nil
      go_simp
      refine unhide hK _ _ (fun h => absurd h (by decide)) ?_
      clear hK K f2 d2
      generalize hu : Value.slice va NN vc = uv at *
      have q2' := q2.set uv
      have q3' := q3.other ⟨n + 1 + 1, 0, none⟩ uv (by show n + 1 + 1 + 1 ≠ n + 1 + 1; omega)
      have k2 := k01.trans (KN.setCell Y1 ⟨n + 1 + 1, 0, none⟩ uv (by show n ≤ n + 1 + 1; omega) (by rintro (h | h); exact h.elim; exact absurd h.1 (by show ¬ w8.heap.size ≤ n + 1 + 1; omega)))
      have o2 : Own (Y1.setCell ⟨n + 1 + 1, 0, none⟩ uv) (n + 4) uv (((txtO o).drop lo).take d) := o1.same fun G hG' => Below.heap_setCell Y1 ⟨n + 1 + 1, 0, none⟩ uv G (by have := (o1.at G hG').1; show G ≠ n + 1 + 1; omega)
      generalize Y1.setCell ⟨n + 1 + 1, 0, none⟩ uv = Y2 at *
      have f3 := q3'.frozen
      have d3 := q3'.cell
      refine anyL_ready (rs := [6]) (by kernel_rfl) (by simp) ?_
      refine AllL.cons rfl (fun K hK => ?_) AllL.nil
      go_simp
      refine unhide hK _ _ (fun h => absurd h (by decide)) ?_
      clear hK K f3 d3
      refine anyL_done (by kernel_rfl) ?_ _
      have k3 := k2.trans (KN.setCell Y2 ⟨n + 1 + 1 + 1, 0, none⟩ (.int .i64 0) (by show n ≤ n + 1 + 1 + 1; omega) (by rintro (h | h); exact h.elim; exact absurd h.1 (by show ¬ w8.heap.size ≤ n + 1 + 1 + 1; omega)))
      have o3 : Own (Y2.setCell ⟨n + 1 + 1 + 1, 0, none⟩ (.int .i64 0)) (n + 4) uv (((txtO o).drop lo).take d) := o2.same fun G hG' => Below.heap_setCell Y2 ⟨n + 1 + 1 + 1, 0, none⟩ (.int .i64 0) G (by have := (o2.at G hG').1; show G ≠ n + 1 + 1 + 1; omega)
      have q4 := q3'.set (.int .i64 0)
      have q5 := q2'.other ⟨n + 1 + 1 + 1, 0, none⟩ (.int .i64 0) (by show n + 1 + 1 ≠ n + 1 + 1 + 1; omega)
      gi_wp2_with fail
      refine ⟨k3, rfl, ⟨uv, q5, o3, ?_⟩, q4, qb.trans k3.1⟩
      intro G hG'
      rcases h1 with e | e
      · exact (hG G (e ▸ hG')).2
      · have : G = Y.heap.size := by rw [e] at hG'; exact (Option.some.inj hG').symm
        exact Or.inr (by omega)
    · have t1 : decide ((lf : Int) ≤ (x.length : Int)) = false := decide_eq_false (by omega)
      have t2 : ¬ (lf : Int) ≤ (x.length : Int) := by omega
      obtain ⟨v', Y1, r1, o1, b1, g1, h1⟩ := appG 30 ou (by omega) hN.1 (by omega)
      obtain ⟨va, NN, vc, rfl⟩ : ∃ a k c, v' = .slice a k c := by obtain ⟨a, c, h⟩ := o1.len; exact ⟨a, _, c, h⟩
      have ca1 : Cb Y1 A 30 (.slice ua R.length uc) := ca.same (g1.block A ca.lt (fun e => (hG A e.symm).1 rfl))
      have fa := ca1.frozen
      have da := ca1.cell
      have R1 := hide r1
      clear r1
      gi_wp2_with (gi_at_builtin; refine wpListIn_append9 rfl _ _ 30 30 rfl _ _ rfl rfl _ _ (unhide R1) ?_)
      have q0 := q0.below b1 (by omega)
      have q1 := q1.below b1 (by omega)
      have q2 := q2.below b1 (by omega)
      have q3 := q3.below b1 (by omega)
      have k1 : KN n (ownP (fun _ => False) w8.heap.size) X Y1 := ⟨b1.mono (by omega), fun k hk hl => g1.block k hl (fun e => by have := (hG k e.symm).2; rcases hk with h | h; exact h.elim; omega)⟩
      refine ⟨k1.trans (KN.setCell Y1 ⟨A, 0, none⟩ _ (by show n ≤ A; omega) (by rintro (h | h); exact h.elim; exact absurd h.1 (by show ¬ w8.heap.size ≤ A; omega))), ⟨q0.other _ _ (by show n ≠ A; omega), q1.other _ _ (by show n + 1 ≠ A; omega), q2.other _ _ (by show n + 1 + 1 ≠ A; omega), q3.other _ _ (by show n + 1 + 1 + 1 ≠ A; omega), ⟨_, ca1.set _, ?_, ?_⟩, ?_, ?_⟩⟩
      · rw [unhide HFL]
        have o2 : Own (Y1.setCell ⟨A, 0, none⟩ (.slice va NN vc)) (n + 4) (.slice va NN vc) (R ++ x) := o1.same fun G hG' => Below.heap_setCell Y1 ⟨A, 0, none⟩ _ G (by
          rcases h1 with e | e
          · exact (hG G (e ▸ hG')).1
          · have : G = X.heap.size := by rw [e] at hG'; exact (Option.some.inj hG').symm
            show G ≠ A
            omega)
        exact o2
      · intro G hG'
        have hG2 : (Value.slice va NN vc).ownBlock = some G := hG'
        rcases h1 with e | e
        · exact hG G (e ▸ hG2)
        · have : G = X.heap.size := by rw [e] at hG2; exact (Option.some.inj hG2).symm
          exact ⟨by omega, Or.inr (by omega)⟩
      · rw [unhide HFL, List.length_append]; have := unhide HLF; omega
      · exact (qb.trans (b1.mono (by omega))).trans ((Below.refl n Y1).setCell (p := ⟨A, 0, none⟩) (by show n ≤ A; omega) _)
  case done =>
    rintro D X hD hI hK
    obtain ⟨u, ca, ou, hG⟩ := hI.a
    have hle := hI.le
    rw [hE] at ou hle
    have hRR : ((txtO o).drop lo).take d = (txtO o).drop lo := List.take_of_length_le (by omega)
    rw [← hRR] at ou
    obtain ⟨va, NN, vc, rfl⟩ : ∃ a k c, u = .slice a k c := by obtain ⟨a, c, h⟩ := ou.len; exact ⟨a, _, c, h⟩
    have q2 := hI.rs
    have q3 := hI.er
    have qb := hI.b
    have ea := ca.cell
    have d2 := q2.cell
    have f2 := q2.frozen
    have q3' := q3.other ⟨n + 1 + 1, 0, none⟩ (.slice va NN vc) (by show n + 1 + 1 + 1 ≠ n + 1 + 1; omega)
    have d3 := q3'.cell
    have f3 := q3'.frozen
    clear hI hle
    go_wp2_with fail
    have q5 := (q2.set (.slice va NN vc)).other ⟨n + 1 + 1 + 1, 0, none⟩ (.int .i64 0) (by show n + 1 + 1 ≠ n + 1 + 1 + 1; omega)
    have q4 := q3'.set (.int .i64 0)
    have hK2 : ((X.setCell ⟨n + 1 + 1, 0, none⟩ (.slice va NN vc)).setCell ⟨n + 1 + 1 + 1, 0, none⟩ (.int .i64 0)).heap[D]? = some (.deferred (some [])) := by
      rw [Below.heap_setCell _ ⟨n + 1 + 1 + 1, 0, none⟩ _ D (by show D ≠ n + 1 + 1 + 1; omega), Below.heap_setCell _ ⟨n + 1 + 1, 0, none⟩ _ D (by show D ≠ n + 1 + 1; omega)]
      exact hK
    have bz : Below n w ((X.setCell ⟨n + 1 + 1, 0, none⟩ (.slice va NN vc)).setCell ⟨n + 1 + 1 + 1, 0, none⟩ (.int .i64 0)) := (qb.setCell (p := ⟨n + 1 + 1, 0, none⟩) (by show n ≤ n + 1 + 1; omega) _).setCell (p := ⟨n + 1 + 1 + 1, 0, none⟩) (by show n ≤ n + 1 + 1 + 1; omega) _
    have oz : Own ((X.setCell ⟨n + 1 + 1, 0, none⟩ (.slice va NN vc)).setCell ⟨n + 1 + 1 + 1, 0, none⟩ (.int .i64 0)) (n + 4) (.slice va NN vc) (((txtO o).drop lo).take d) := ou.same fun G hG' => by
      have := (ou.at G hG').1
      rw [Below.heap_setCell _ ⟨n + 1 + 1 + 1, 0, none⟩ _ G (by show G ≠ n + 1 + 1 + 1; omega), Below.heap_setCell _ ⟨n + 1 + 1, 0, none⟩ _ G (by show G ≠ n + 1 + 1; omega)]
    generalize (X.setCell ⟨n + 1 + 1, 0, none⟩ (.slice va NN vc)).setCell ⟨n + 1 + 1 + 1, 0, none⟩ (.int .i64 0) = Z at *
    refine ⟨by simp, .inl ⟨_, _, rfl, run_takeDeferred hK2, ?_⟩⟩
    have hbp := below_putP (N := n + 4) Z D (.deferred none) (by omega)
    have e5 := (q5.below hbp (by omega)).cell
    have e4 := (q4.below hbp (by omega)).cell
    refine ⟨.tuple #[.slice va NN vc, .int .i64 0], by simp [results, Tryz.results17, go_sem, e5, e4], _, rfl, ?_, hn ▸ (bz.trans (hbp.mono (by omega)))⟩
    refine Own.low (B := n + 4) (oz.same fun G hG' => World.putObj_heap_other ?_) (by omega)
    rintro rfl
    obtain ⟨_, hlt⟩ := oz.at _ hG'
    rcases oz.2 with ⟨h, _⟩ | ⟨g', cap', cur, h, _, h4, _⟩
    · cases h; cases hG'
    · cases h; cases hG'
      rw [h4] at hK2
      cases hK2
  case stop =>
    rintro D c pre X hD hpre h hK
    obtain ⟨rfl, ⟨uv, q5, oz, hG⟩, q4, bz⟩ := h
    gi_wp2
    refine ⟨by simp, .inl ⟨_, _, rfl, run_takeDeferred hK, ?_⟩⟩
    have hbp := below_putP (N := n + 4) X D (.deferred none) (by omega)
    have e5 := (q5.below hbp (by omega)).cell
    have e4 := (q4.below hbp (by omega)).cell
    refine ⟨.tuple #[uv, .int .i64 0], by simp [results, Tryz.results17, go_sem, e5, e4], _, rfl, ?_, hn ▸ (bz.trans (hbp.mono (by omega)))⟩
    refine Own.low (B := n + 4) (oz.same fun G hG' => World.putObj_heap_other ?_) (by omega)
    rintro rfl
    rcases oz.2 with ⟨h, _⟩ | ⟨g', cap', cur, h, _, h4, _⟩
    · subst h; cases hG'
    · subst h; cases hG'
      rw [h4] at hK
      cases hK
end
section
attribute [local go_sem] Oper.semAt_some
end
section
attribute [local go_sem] Oper.semAt_some
end
section
attribute [local go_sem] Oper.semAt_some
end
section
attribute [local go_sem] Oper.semAt_some taTF taTT taFF taFT
theorem halvesT9_at (l : List Int) (v : Value) (w : World) (h : IsNd w v (.tip l)) (h2 : 2 ≤ l.length) (hW : Wt w) :
    Calls Tryz.prog 119 #[v] w fun y w' => ∃ va vb, y = .returned (.tuple #[va, vb]) ∧ IsNd w' va (.tip (l.take (l.length / 2))) ∧ IsNd w' vb (.tip (l.drop (l.length / 2))) ∧ Below w.heap.size w w' := by
  obtain ⟨g, rfl, hf, h1, h4, hb⟩ := h
  have b0 := (Below.refl w.heap.size w).alloc (Nat.le_refl _) (.cells #[.pointer (some ⟨g, 0, none⟩)] 179)
  have g0 := push_get w (.cells #[.pointer (some ⟨g, 0, none⟩)] 179)
  have D0 : Below w.heap.size w (w.alloc (.cells #[.pointer (some ⟨g, 0, none⟩)] 179)).drew := b0.drew
  have z0 : (w.alloc (.cells #[.pointer (some ⟨g, 0, none⟩)] 179)).drew.heap.size = w.heap.size + 1 := World.size_alloc ..
  have k0 : (w.alloc (.cells #[.pointer (some ⟨g, 0, none⟩)] 179)).drew.heap[w.heap.size]? = some (.cells #[.pointer (some ⟨g, 0, none⟩)] 179) := g0
  have HF := hide fun (X : World) (hx : Below w.heap.size w X) => hf.on hx
  have HW := hide fun (X : World) (hx : Below w.heap.size w X) => hW.below hx
  obtain ⟨m, hm⟩ : ∃ m, m = l.length / 2 := ⟨_, rfl⟩
  have hq1 : Int.tdiv (l.length : Int) 2 = (m : Int) := by rw [Int.tdiv_eq_ediv_of_nonneg (by omega)]; omega
  have hqw : IntKind.i64.wrap (m : Int) = (m : Int) := by rw [IntKind.wrap_i64]; omega
  have hqx : wrap64 (m : Int) = (m : Int) := by unfold wrap64; omega
  rw [← hm]
  have HM : Hid (0 < m ∧ m < l.length) := hide (by omega)
  clear hm
  have c0 : (w.alloc (.cells #[.pointer (some ⟨g, 0, none⟩)] 179)).cell? ⟨w.heap.size, 0, none⟩ = some (.pointer (some ⟨g, 0, none⟩)) := by simp only [World.cell?, g0]; rfl
  clear hf hW b0 g0
  unfold tipV
  go_enter Tryz.func119, Tryz.ntmps119
  go_upto_region 7 with fail
  clear c0
  refine regionL (S := fun w' => w'.cell? ⟨w.heap.size, 0, none⟩ = some (.pointer (some ⟨g, 0, none⟩))) (fun _ => false) (by kernel_rfl) ?_
  generalize (w.alloc (.cells #[.pointer (some ⟨g, 0, none⟩)] 179)).drew = y0 at *
  have HS0 : Hid ((fun w' : World => w'.cell? ⟨w.heap.size, 0, none⟩ = some (.pointer (some ⟨g, 0, none⟩))) y0) := hide (by simp only [World.cell?, k0]; rfl)
  refine anyL_take (i := 0) (v := ?vrt0) rfl (by kernel_rfl) (by kernel_rfl) (by kernel_rfl) (by kernel_rfl) (fun _ _ _ h => h) (Or.inl ⟨by rfl, ?hrt0⟩) (unhide HS0) ?_
  case hrt0 => (intro w hSw; (try dsimp only at hSw); go_simp) <;> with_reducible rfl
  simp only [Act.put, List.getElem_toArray, List.getElem_cons_zero, List.setIfInBounds_toArray, List.set_cons_zero, List.set_cons_succ]
  refine anyL_take (i := 1) (v := ?vrt1) rfl (by kernel_rfl) (by kernel_rfl) (by kernel_rfl) (by kernel_rfl) (fun _ _ _ h => h) (Or.inl ⟨by rfl, ?hrt1⟩) (unhide HS0) ?_
  case hrt1 => (intro w hSw; (try dsimp only at hSw); go_simp) <;> with_reducible rfl
  simp only [Act.put, List.getElem_toArray, List.getElem_cons_zero, List.getElem_cons_succ, List.setIfInBounds_toArray, List.set_cons_zero, List.set_cons_succ]
  refine anyL_take (i := 2) (v := ?vrt2) rfl (by kernel_rfl) (by kernel_rfl) (by kernel_rfl) (by kernel_rfl) (fun _ _ _ h => h) (Or.inl ⟨by rfl, ?hrt2⟩) (unhide HS0) ?_
  case hrt2 => (intro w hSw; (try dsimp only at hSw); go_simp) <;> with_reducible rfl
  simp only [Act.put, List.getElem_toArray, List.getElem_cons_zero, List.getElem_cons_succ, List.setIfInBounds_toArray, List.set_cons_zero, List.set_cons_succ]
  refine anyL_take (i := 3) (v := ?vrt3) rfl (by kernel_rfl) (by kernel_rfl) (by kernel_rfl) (by kernel_rfl) (fun _ _ _ h => h) (Or.inl ⟨by rfl, ?hrt3⟩) (unhide HS0) ?_
  case hrt3 => (intro w hSw; (try dsimp only at hSw); go_simp) <;> with_reducible rfl
  simp only [Act.put, List.getElem_toArray, List.getElem_cons_zero, List.getElem_cons_succ, List.setIfInBounds_toArray, List.set_cons_zero, List.set_cons_succ]
  refine anyL_ready (rs := [4]) (by kernel_rfl) (by simp) ?_
  refine AllL.cons rfl (fun K hK => ?_) AllL.nil
  go_simp
  refine (LenL_at g l y0 (unhide HF _ D0)).mono ?_
  rintro e y1 ⟨rfl, rfl⟩
  refine unhide hK _ _ (fun _ => unhide HS0) ?_
  clear hK K
  refine anyL_take (i := 5) (v := ?vrt4) rfl (by kernel_rfl) (by kernel_rfl) (by kernel_rfl) (by kernel_rfl) (fun _ _ _ h => h) (Or.inl ⟨by rfl, ?hrt4⟩) (unhide HS0) ?_
  case hrt4 => (intro w hSw; (try dsimp only at hSw); go_simp) <;> with_reducible rfl
  simp only [Act.put, List.getElem_toArray, List.getElem_cons_zero, List.getElem_cons_succ, List.setIfInBounds_toArray, List.set_cons_zero, List.set_cons_succ]
  refine anyL_ready (rs := [6]) (by kernel_rfl) (by simp) ?_
  refine AllL.cons rfl (fun K hK => ?_) AllL.nil
  go_simp
  refine (Split_at g m l y1 (unhide HF _ D0) hb h4 (by have := unhide HM; omega) (unhide HW _ D0)).mono ?_
  rintro e y2 ⟨ga, gb, rfl, fa, fb, x2⟩
  have D2 := D0.trans (x2.mono D0.size)
  have HS2 : Hid ((fun w' : World => w'.cell? ⟨w.heap.size, 0, none⟩ = some (.pointer (some ⟨g, 0, none⟩))) y2) := hide (by have := bk9_on k0 x2; simp only [World.cell?, this]; rfl)
  refine unhide hK _ _ (fun _ => unhide HS2) ?_
  clear hK K
  refine anyL_take (i := 7) (v := ?vrt5) rfl (by kernel_rfl) (by kernel_rfl) (by kernel_rfl) (by kernel_rfl) (fun _ _ _ h => h) (Or.inl ⟨by rfl, ?hrt5⟩) (unhide HS2) ?_
  case hrt5 => (intro w hSw; (try dsimp only at hSw); go_simp) <;> with_reducible rfl
  simp only [Act.put, List.getElem_toArray, List.getElem_cons_zero, List.getElem_cons_succ, List.setIfInBounds_toArray, List.set_cons_zero, List.set_cons_succ]
  refine anyL_take (i := 8) (v := ?vrt6) rfl (by kernel_rfl) (by kernel_rfl) (by kernel_rfl) (by kernel_rfl) (fun _ _ _ h => h) (Or.inl ⟨by rfl, ?hrt6⟩) (unhide HS2) ?_
  case hrt6 => (intro w hSw; (try dsimp only at hSw); go_simp) <;> with_reducible rfl
  simp only [Act.put, List.getElem_toArray, List.getElem_cons_zero, List.getElem_cons_succ, List.setIfInBounds_toArray, List.set_cons_zero, List.set_cons_succ]
  refine anyL_take (i := 9) (v := ?vrt7) rfl (by kernel_rfl) (by kernel_rfl) (by kernel_rfl) (by kernel_rfl) (fun _ _ _ h => h) (Or.inl ⟨by rfl, ?hrt7⟩) (unhide HS2) ?_
  case hrt7 => (intro w hSw; (try dsimp only at hSw); go_simp) <;> with_reducible rfl
  simp only [Act.put, List.getElem_toArray, List.getElem_cons_zero, List.getElem_cons_succ, List.setIfInBounds_toArray, List.set_cons_zero, List.set_cons_succ]
  refine anyL_take (i := 10) (v := ?vrt8) rfl (by kernel_rfl) (by kernel_rfl) (by kernel_rfl) (by kernel_rfl) (fun _ _ _ h => h) (Or.inl ⟨by rfl, ?hrt8⟩) (unhide HS2) ?_
  case hrt8 => (intro w hSw; (try dsimp only at hSw); go_simp) <;> with_reducible rfl
  simp only [Act.put, List.getElem_toArray, List.getElem_cons_zero, List.getElem_cons_succ, List.setIfInBounds_toArray, List.set_cons_zero, List.set_cons_succ]
  refine anyL_take (i := 11) (v := ?vrt9) rfl (by kernel_rfl) (by kernel_rfl) (by kernel_rfl) (by kernel_rfl) (fun _ _ _ h => h) (Or.inl ⟨by rfl, ?hrt9⟩) (unhide HS2) ?_
  case hrt9 => (intro w hSw; (try dsimp only at hSw); go_simp) <;> with_reducible rfl
  simp only [Act.put, List.getElem_toArray, List.getElem_cons_zero, List.getElem_cons_succ, List.setIfInBounds_toArray, List.set_cons_zero, List.set_cons_succ]
  refine anyL_take (i := 12) (v := ?vrt10) rfl (by kernel_rfl) (by kernel_rfl) (by kernel_rfl) (by kernel_rfl) (fun _ _ _ h => h) (Or.inl ⟨by rfl, ?hrt10⟩) (unhide HS2) ?_
  case hrt10 => (intro w hSw; (try dsimp only at hSw); go_simp) <;> with_reducible rfl
  simp only [Act.put, List.getElem_toArray, List.getElem_cons_zero, List.getElem_cons_succ, List.setIfInBounds_toArray, List.set_cons_zero, List.set_cons_succ]
  refine anyL_take (i := 13) (v := ?vrt11) rfl (by kernel_rfl) (by kernel_rfl) (by kernel_rfl) (by kernel_rfl) (fun _ _ _ h => h) (Or.inl ⟨by rfl, ?hrt11⟩) (unhide HS2) ?_
  case hrt11 => (intro w hSw; (try dsimp only at hSw); go_simp) <;> with_reducible rfl
  simp only [Act.put, List.getElem_toArray, List.getElem_cons_zero, List.getElem_cons_succ, List.setIfInBounds_toArray, List.set_cons_zero, List.set_cons_succ]
  refine anyL_done (by kernel_rfl) ?_ _
  have HR : Hid (IsNd y2 (tipV ga) (.tip (l.take m)) ∧ IsNd y2 (tipV gb) (.tip (l.drop m))) := hide ⟨⟨ga, rfl, fa, by have := unhide HM; rw [List.length_take]; omega, by rw [List.length_take]; omega, fun x hx => hb x (List.mem_of_mem_take hx)⟩, ⟨gb, rfl, fb, by have := unhide HM; rw [List.length_drop]; omega, by rw [List.length_drop]; omega, fun x hx => hb x (List.mem_of_mem_drop hx)⟩⟩
  have HD := hide D2
  clear fa fb x2 D2 D0 HS0 HS2
  go_wp2_with fail
  refine bodyPost_ret (v := .tuple #[tipV ga, tipV gb]) (by simp [results, Tryz.results119, go_sem, tipV]) rfl ⟨_, _, rfl, (unhide HR).1, (unhide HR).2, unhide HD⟩
end
section
attribute [local go_sem] Oper.semAt_some
theorem step_meas {ops : Array Oper} {o : Oper} {a : Act} {K : Act → World → Prop} {Q : Exit → Act → World → Prop} {w : World} {E : Prop} (hw : Region.wanted o (yielded ops a.tmps) = true) (x : Operand)
    (ho : o.op = .call { callee := .invoke x "galley/rope.measure", args := #[], argTypes := #[] }) (v : Value) (t : Nd) (hx : a.eval x = v) (hN : IsNd w v t)
    (h : ∀ w', Below w.heap.size w w' → K (a.put o.dst (weV (ofL t.txt))) w') : if Region.wanted o (yielded ops a.tmps) = true then Oper.wp Tryz.prog o a w K Q else E := by
  rw [if_pos hw]
  cases t with
  | tip l =>
    obtain ⟨g, rfl, hf, _⟩ := hN
    unfold Oper.wp
    unfold execOp
    simp only [ho, resolve, invoke, hx, tipV]
    go_simp
    go_invoke
    go_simp
    refine (tipM_at _ g l w rfl hf).mono ?_
    rintro y w1 ⟨rfl, x1⟩
    exact h w1 x1
  | fork p q =>
    obtain ⟨g, va, vb, rfl, hc, _, _⟩ := hN
    unfold Oper.wp
    unfold execOp
    simp only [ho, resolve, invoke, hx, forkV]
    go_simp
    go_invoke
    go_simp
    refine (forkM_at g va vb _ _ w hc).mono ?_
    rintro y w1 ⟨rfl, x1⟩
    exact h w1 x1
theorem halves9_at (t : Nd) (v : Value) (w : World) (h : IsNd w v t) (h2 : 2 ≤ t.txt.length) (hW : Wt w) :
    Calls Tryz.prog 119 #[v] w fun y w' => ∃ va vb a b, y = .returned (.tuple #[va, vb]) ∧ IsNd w' va a ∧ IsNd w' vb b ∧ t.txt = a.txt ++ b.txt ∧ Below w.heap.size w w' := by
  cases t with
  | tip l =>
    refine (halvesT9_at l v w h h2 hW).mono ?_
    rintro y w' ⟨va, vb, rfl, ha, hb, x⟩
    exact ⟨va, vb, _, _, rfl, ha, hb, (List.take_append_drop _ l).symm, x⟩
  | fork a b =>
    refine (halvesF9_at a b v w h).mono ?_
    rintro y w' ⟨va, vb, rfl, ha, hb, x⟩
    exact ⟨va, vb, a, b, rfl, ha, hb, rfl, x⟩
def wlC (q : List Int) : Array Value := #[.int .i64 (szL q).b, .int .i64 (szL q).r, .int .i64 (szL q).u, .int .i64 (szL q).e, .string (strOfNums (q.take 3)), .string (strOfNums (tail3 q))]
theorem wlC_we (q : List Int) : weV (ofL q) = .agg (wlC q) := rfl
theorem wlC_is (q : List Int) : ∃ r u e h t, wlC q = #[.int .i64 (q.length : Int), .int .i64 r, .int .i64 u, .int .i64 e, .string h, .string t] := ⟨_, _, _, _, _, rfl⟩
def ptrB : Value → Nat
  | .pointer (some a) => a.block
  | _ => 0
def ndMu (w : World) (v : Value) : Nat := match v with
  | .iface _ (.pointer (some a)) => match w.cell? ⟨a.block, 2, none⟩ with | some (.int _ n) => n.toNat | _ => 0
  | .iface _ (.agg cs) => match w.cell? ⟨ptrB (cs.getD 0 undef), 0, none⟩ with | some (.string s) => s.size | _ => 0
  | _ => 0
theorem ndMu_of {w : World} {v : Value} {t : Nd} (h : IsNd w v t) : ndMu w v = t.txt.length := by
  cases t with
  | tip l =>
    obtain ⟨g, rfl, hf, _⟩ := h
    have := hf.text
    have hs := strOfNums_size l
    simp [ndMu, tipV, ptrB, this, hs, Nd.txt]
  | fork a b =>
    obtain ⟨g, va, vb, rfl, hc, _, _⟩ := h
    unfold forkC at hc
    obtain ⟨_, _, c2, _⟩ := cells9 hc
    have : (szL (a.txt ++ b.txt)).b = ((a.txt ++ b.txt).length : Int) := rfl
    rw [this] at c2
    simp only [ndMu, forkV, c2]
    exact Int.toNat_natCast _
theorem IsNd.but {X Y : World} {gA : Nat} {cs : Array Value} (hA : X.heap[gA]? = some (.cells cs 47 (0, 0))) (h : ∀ k, k < X.heap.size → k ≠ gA → Y.heap[k]? = X.heap[k]?) : ∀ {t : Nd} {v : Value}, IsNd X v t → IsNd Y v t
  | .tip _, _, ⟨g, e, hf, r⟩ => ⟨g, e, by
      have hf' : X.heap[g]? = _ := hf
      refine (h g hf.lt fun e => ?_).trans hf
      subst e
      rw [hA] at hf'
      injection hf' with hf'
      injection hf' with _ h2 _
      revert h2
      decide, r⟩
  | .fork _ _, _, ⟨g, va, vb, e, hc, h1, h2⟩ => ⟨g, va, vb, e, by
      refine (h g (Array.getElem?_eq_some_iff.1 hc).1 fun e => ?_).trans hc
      subst e
      rw [hA] at hc
      injection hc with hc
      injection hc with _ h2 _
      revert h2
      decide, IsNd.but hA h h1, IsNd.but hA h h2⟩
structure ShI (w : World) (gA : Nat) (T : List Int) (p : List Int → Bool) (v : Value) (t : Nd) (k : Nat) (X : World) : Prop where
  n : IsNd X v t
  e : (T.drop k).take t.txt.length = t.txt
  l : k + t.txt.length ≤ T.length
  no : p (T.take k) = false
  yes : p (T.take (k + t.txt.length)) = true
  c : X.heap[gA]? = some (.cells (wlC (T.take k)) 47 (0, 0))
  b : Below w.heap.size w X
theorem shortest9_at (T : List Int) (t : Nd) (hT : t.txt = T) (v : Value) (fid : Nat) (lb : Array Value) (p : List Int → Bool) (w : World) (h : IsNd w v t) (hm : T.length ≤ 268435456) (hW : Wt w) (eg : ∀ args w, (callFunc fid args).run Tryz.prog w = .ok (.enter fid args) w)
    (hA : ∀ k X, k ≤ T.length → Below w.heap.size w X → Calls Tryz.prog fid (#[weV (ofL (T.take k))] ++ lb) X fun y X' => y = .returned (.bool (p (T.take k))) ∧ Below X.heap.size X X') (h0 : p [] = false) (h1 : p T = true) :
    Calls Tryz.prog 113 #[v, .func (.func fid) #[] lb] w fun y w' => ∃ n : Nat, y = .returned (.int .i64 (n : Int)) ∧ 0 < n ∧ n ≤ T.length ∧ p (T.take (n - 1)) = false ∧ p (T.take n) = true ∧ Below w.heap.size w w' := by
  have HIN : Hid (∀ x ∈ T, 0 ≤ x ∧ x ≤ 255) := hide (hT ▸ IsNd.bytes h)
  have x0 := (Below.refl w.heap.size w).alloc (Nat.le_refl _) (.cells #[.int .i64 0, .int .i64 0, .int .i64 0, .int .i64 0, .string ⟨#[]⟩, .string ⟨#[]⟩] 47)
  have g0 := push_get w (.cells #[.int .i64 0, .int .i64 0, .int .i64 0, .int .i64 0, .string ⟨#[]⟩, .string ⟨#[]⟩] 47)
  have i0 : ShI w w.heap.size T p v t 0 (w.alloc (.cells #[.int .i64 0, .int .i64 0, .int .i64 0, .int .i64 0, .string ⟨#[]⟩, .string ⟨#[]⟩] 47)) := ⟨IsNd.on x0 h, by rw [← hT]; simp, by rw [hT]; omega, by simpa using h0, by rw [hT]; simpa using h1, g0, x0⟩
  have HW := hide fun (X : World) (hx : Below w.heap.size w X) => hW.below hx
  have HA := hide hA
  have HM := hide hm
  clear h hA h0 h1 hW hT x0 g0 hm
  go_enter Tryz.func113, Tryz.ntmps113
  go_wp2_with fail
  generalize w.alloc (.cells #[.int .i64 0, .int .i64 0, .int .i64 0, .int .i64 0, .string ⟨#[]⟩, .string ⟨#[]⟩] 47) = w1 at *
  generalize hgA : w.heap.size = gA at *
  go_loopw [0, 6, 7, 8] (fun v0 v6 v7 v8 wx => (∃ z, v6 = z) ∧ (∃ z, v7 = z) ∧ (∃ z, v8 = z) ∧ ∃ (t1 : Nd) (k : Nat), Hid (ShI w gA T p v0 t1 k wx)) (fun v0 _ _ _ wx => ndMu wx v0)
  case atStart => exact ⟨⟨_, rfl⟩, ⟨_, rfl⟩, ⟨_, rfl⟩, t, 0, hide i0⟩
  case round =>
    clear i0
    obtain ⟨⟨z6, rfl⟩, ⟨z7, rfl⟩, ⟨z8, rfl⟩, t1, k, HI⟩ := hrel
    have hI := unhide HI
    have HS := hide (size9_at _ t1 wr hI.n)
    have hl := hI.l
    have hpos := IsNd.pos hI.n
    have hmu := ndMu_of hI.n
    have HMU := hide hmu
    have HL := hide (And.intro hl hpos)
    have hmm := unhide HM
    obtain ⟨xr, xu, xe, xh, xt, hx⟩ := wlC_is (T.take k)
    rw [show (T.take k).length = k by rw [List.length_take]; omega] at hx
    by_cases c : 1 < t1.txt.length
    · have t2 : decide ((1 : Int) < (t1.txt.length : Int)) = true := decide_eq_true (by omega)
      have t3 : (1 : Int) < (t1.txt.length : Int) := by omega
      clear hmu hl hmm hI
      go_wp2_with fail
      refine (unhide HS).mono ?_
      rintro y w2 ⟨rfl, x2⟩
      dsimp only
      have B2 := (unhide HI).b.trans (x2.mono (unhide HI).b.size)
      have HH := hide (halves9_at t1 _ w2 (IsNd.on x2 (unhide HI).n) c (unhide HW w2 (hgA ▸ B2)))
      clear HS t2 t3
      go_wp2_with fail
      refine (unhide HH).mono ?_
      rintro y w3 ⟨va, vb, a, b, rfl, na, nb, hab, x3⟩
      dsimp only
      have x23 := x2.trans (x3.mono x2.size)
      have B3 := (unhide HI).b.trans (x23.mono (unhide HI).b.size)
      have c3 := bk9_on (unhide HI).c x23
      have HC3 := hide c3
      rw [hx] at c3
      have hgl : gA < w3.heap.size := (Array.getElem?_eq_some_iff.1 c3).1
      have HGA := hide hgl
      have hla : t1.txt.length = a.txt.length + b.txt.length := by rw [hab, List.length_append]
      have ea : a.txt = (T.drop k).take a.txt.length := by
        have := (unhide HI).e
        rw [hab] at this
        have h2 := congrArg (List.take a.txt.length) this
        rw [List.take_take, Nat.min_eq_left (by rw [List.length_append]; omega), List.take_left' rfl] at h2
        exact h2.symm
      have eb : b.txt = (T.drop (k + a.txt.length)).take b.txt.length := by
        have := (unhide HI).e
        rw [hab] at this
        have h2 := congrArg (List.drop a.txt.length) this
        rw [List.drop_left' rfl, List.drop_take, List.drop_drop, List.length_append, Nat.add_sub_cancel_left] at h2
        exact h2.symm
      have eq : T.take k ++ a.txt = T.take (k + a.txt.length) := by rw [List.take_add, ← ea]
      obtain ⟨mb, mr, mu, me, mh, mt, hmx⟩ : ∃ mb mr mu me mh mt, wlC (T.take (k + a.txt.length)) = #[.int .i64 mb, .int .i64 mr, .int .i64 mu, .int .i64 me, .string mh, .string mt] := ⟨_, _, _, _, _, _, rfl⟩
      have HSW := hide fun (X : World) (hb : Below w3.heap.size w3 X) => (show (fun w' : World => w'.cell? ⟨gA, 0, none⟩ = some (.int .i64 (k : Int)) ∧ w'.cell? ⟨gA, 1, none⟩ = some (.int .i64 xr) ∧ w'.cell? ⟨gA, 2, none⟩ = some (.int .i64 xu) ∧ w'.cell? ⟨gA, 3, none⟩ = some (.int .i64 xe) ∧ w'.cell? ⟨gA, 4, none⟩ = some (.string xh) ∧ w'.cell? ⟨gA, 5, none⟩ = some (.string xt)) X from by
        obtain ⟨p0, p1, p2, p3, p4, p5, _⟩ := cells6 (bk9_on c3 hb)
        exact ⟨p0, p1, p2, p3, p4, p5⟩)
      have HNA := hide fun (X : World) (hb : Below w3.heap.size w3 X) => IsNd.on hb na
      have HBO := hide fun (X : World) (hb : Below w3.heap.size w3 X) => (show Calls Tryz.prog 114 #[.agg #[.int .i64 (k : Int), .int .i64 xr, .int .i64 xu, .int .i64 xe, .string xh, .string xt], weV (ofL a.txt)] X fun y w' => y = .returned (.agg #[.int .i64 mb, .int .i64 mr, .int .i64 mu, .int .i64 me, .string mh, .string mt]) ∧ Below X.heap.size X w' from by
        have h9 := both9_at (T.take k) a.txt X (fun x hx => unhide HIN x (List.mem_of_mem_take hx)) (IsNd.bytes na) (by rw [List.length_take]; have := unhide HL; have := unhide HM; omega) (unhide HW X (hgA ▸ B3.trans (hb.mono B3.size)))
        rw [eq, wlC_we (T.take k), wlC_we (T.take (k + a.txt.length)), hx, hmx] at h9
        exact h9)
      have D0 : Below w3.heap.size w3 w3.drew := (Below.refl _ w3).drew
      have HEN := hide fun (X : World) (hb : Below w3.heap.size w3 X) => (show Calls Tryz.prog fid (#[.agg #[.int .i64 mb, .int .i64 mr, .int .i64 mu, .int .i64 me, .string mh, .string mt]] ++ lb) X fun y X' => y = .returned (.bool (p (T.take (k + a.txt.length)))) ∧ Below X.heap.size X X' from by
        have h9 := unhide HA (k + a.txt.length) X (by have := unhide HL; omega) (hgA ▸ B3.trans (hb.mono B3.size))
        rw [wlC_we, hmx] at h9
        exact h9)
      have HAB := hide (And.intro ea (And.intro eb hla))
      have HX := hide (And.intro hx hmx)
      have NB := hide nb
      have NAA := hide na
      have HB3 := hide B3
      have hap := IsNd.pos na
      have hbp := IsNd.pos nb
      have HAP := hide (And.intro hap hbp)
      clear x2 x3 x23 B2 B3 c3 hla ea eb eq hab na nb HH hx hmx hgl hap hbp c hpos
      obtain ⟨pv, hpv⟩ : ∃ pv, pv = p (T.take (k + a.txt.length)) := ⟨_, rfl⟩
      rw [← hpv] at HEN
      have HPV := hide hpv
      clear hpv
      go_upto_region 4 with fail
      go_cut [8] (fun p8 wz => ∃ gB, p8 = .pointer (some ⟨gB, 0, none⟩) ∧ Hid (wz.heap[gB]? = some (.cells #[.int .i64 mb, .int .i64 mr, .int .i64 mu, .int .i64 me, .string mh, .string mt] 47 (0, 0)) ∧ Below w3.heap.size w3 wz ∧ gA ≠ gB ∧ w3.heap.size ≤ gB))
      case first =>
        refine regionL (S := fun w' => w'.cell? ⟨gA, 0, none⟩ = some (.int .i64 (k : Int)) ∧ w'.cell? ⟨gA, 1, none⟩ = some (.int .i64 xr) ∧ w'.cell? ⟨gA, 2, none⟩ = some (.int .i64 xu) ∧ w'.cell? ⟨gA, 3, none⟩ = some (.int .i64 xe) ∧ w'.cell? ⟨gA, 4, none⟩ = some (.string xh) ∧ w'.cell? ⟨gA, 5, none⟩ = some (.string xt)) (fun i => i == 5) (by kernel_rfl) ?_
        generalize w3.drew = y0 at *
        refine anyL_take (i := 0) (v := ?vsv0) rfl (by kernel_rfl) (by kernel_rfl) (by kernel_rfl) (by kernel_rfl) (fun _ _ _ h => h) (Or.inl ⟨by rfl, ?hsv0⟩) (unhide HSW _ D0) ?_
        case hsv0 => (intro w hSw; (try dsimp only at hSw); go_simp) <;> with_reducible rfl
        simp only [Act.put, List.getElem_toArray, List.getElem_cons_zero, List.setIfInBounds_toArray, List.set_cons_zero, List.set_cons_succ]
        refine anyL_take (i := 1) (v := ?vsv1) rfl (by kernel_rfl) (by kernel_rfl) (by kernel_rfl) (by kernel_rfl) (fun _ _ _ h => h) (Or.inl ⟨by rfl, ?hsv1⟩) (unhide HSW _ D0) ?_
        case hsv1 => (intro w hSw; (try dsimp only at hSw); go_simp) <;> with_reducible rfl
        simp only [Act.put, List.getElem_toArray, List.getElem_cons_zero, List.getElem_cons_succ, List.setIfInBounds_toArray, List.set_cons_zero, List.set_cons_succ]
        refine anyL_ready (rs := [2, 4]) (by kernel_rfl) (by simp) ?_
        refine AllL.cons rfl (fun K hK => ?_) (AllL.cons rfl (fun K hK => ?_) AllL.nil)
        · refine step_meas rfl _ rfl va a rfl (unhide HNA _ D0) ?_
          intro z1 x1
          simp only [Act.put, List.getElem_toArray, List.getElem_cons_zero, List.getElem_cons_succ, List.setIfInBounds_toArray, List.set_cons_zero, List.set_cons_succ]
          have D1 := D0.trans (x1.mono D0.size)
          refine unhide hK _ _ (fun _ => unhide HSW _ D1) ?_
          clear hK K
          refine anyL_ready (rs := [3, 4]) (by kernel_rfl) (by simp) ?_
          refine AllL.cons rfl (fun K hK => ?_) (AllL.cons rfl (fun K hK => ?_) AllL.nil)
          · go_simp
            refine (unhide HBO _ D1).mono ?_
            rintro e z2 ⟨rfl, x2⟩
            have D2 := D1.trans (x2.mono D1.size)
            refine unhide hK _ _ (fun _ => unhide HSW _ D2) ?_
            clear hK K
            refine anyL_ready (rs := [4]) (by kernel_rfl) (by simp) ?_
            refine AllL.cons rfl (fun K hK => ?_) AllL.nil
            go_simp
            have x3 := (Below.refl z2.heap.size z2).alloc (Nat.le_refl _) (.cells #[.int .i64 0, .int .i64 0, .int .i64 0, .int .i64 0, .string ⟨#[]⟩, .string ⟨#[]⟩] 47)
            have g3 := push_get z2 (.cells #[.int .i64 0, .int .i64 0, .int .i64 0, .int .i64 0, .string ⟨#[]⟩, .string ⟨#[]⟩] 47)
            have D3 := D2.trans (x3.mono D2.size)
            refine unhide hK _ _ (fun _ => unhide HSW _ D3) ?_
            clear hK K
            have hgB : gA ≠ z2.heap.size ∧ w3.heap.size ≤ z2.heap.size := ⟨by have := unhide HGA; have := D2.size; omega, by have := D2.size; omega⟩
            generalize z2.heap.size = gB at *
            generalize z2.alloc (.cells #[.int .i64 0, .int .i64 0, .int .i64 0, .int .i64 0, .string ⟨#[]⟩, .string ⟨#[]⟩] 47) = ye at *
            obtain ⟨u0, u1, u2, u3, u4, u5, uf⟩ := cells6 g3
            have w0 := uf 0
            have w1 := uf 1
            have w2 := uf 2
            have w3 := uf 3
            have w4 := uf 4
            have w5 := uf 5
            clear uf
            refine anyL_ready (rs := [5]) (by kernel_rfl) (by simp) ?_
            refine AllL.cons rfl (fun K hK => ?_) AllL.nil
            go_simp
            refine unhide hK _ _ (fun h => absurd h (by decide)) ?_
            clear hK K
            refine anyL_done (by kernel_rfl) ?_ _
            have bx := box6_all g3 (.int .i64 mb) (.int .i64 mr) (.int .i64 mu) (.int .i64 me) (.string mh) (.string mt)
            have bb := below6 (D3) hgB.2 (.int .i64 mb) (.int .i64 mr) (.int .i64 mu) (.int .i64 me) (.string mh) (.string mt)
            go_wp2_with fail
            go_meet
            exact ⟨gB, rfl, hide ⟨bx, bb, hgB⟩⟩
          · go_simp
            have x4 := (Below.refl z1.heap.size z1).alloc (Nat.le_refl _) (.cells #[.int .i64 0, .int .i64 0, .int .i64 0, .int .i64 0, .string ⟨#[]⟩, .string ⟨#[]⟩] 47)
            have g4 := push_get z1 (.cells #[.int .i64 0, .int .i64 0, .int .i64 0, .int .i64 0, .string ⟨#[]⟩, .string ⟨#[]⟩] 47)
            have D4 := D1.trans (x4.mono D1.size)
            refine unhide hK _ _ (fun _ => unhide HSW _ D4) ?_
            clear hK K
            refine anyL_ready (rs := [3]) (by kernel_rfl) (by simp) ?_
            refine AllL.cons rfl (fun K hK => ?_) AllL.nil
            go_simp
            refine (unhide HBO _ D4).mono ?_
            rintro e z5 ⟨rfl, x5⟩
            have D5 := D4.trans (x5.mono D4.size)
            have g5 := bk9_on g4 x5
            refine unhide hK _ _ (fun _ => unhide HSW _ D5) ?_
            clear hK K
            have hgB : gA ≠ z1.heap.size ∧ w3.heap.size ≤ z1.heap.size := ⟨by have := unhide HGA; have := D1.size; omega, by have := D1.size; omega⟩
            generalize z1.heap.size = gB at *
            obtain ⟨u0, u1, u2, u3, u4, u5, uf⟩ := cells6 g5
            have w0 := uf 0
            have w1 := uf 1
            have w2 := uf 2
            have w3 := uf 3
            have w4 := uf 4
            have w5 := uf 5
            clear uf
            refine anyL_ready (rs := [5]) (by kernel_rfl) (by simp) ?_
            refine AllL.cons rfl (fun K hK => ?_) AllL.nil
            go_simp
            refine unhide hK _ _ (fun h => absurd h (by decide)) ?_
            clear hK K
            refine anyL_done (by kernel_rfl) ?_ _
            have bx := box6_all g5 (.int .i64 mb) (.int .i64 mr) (.int .i64 mu) (.int .i64 me) (.string mh) (.string mt)
            have bb := below6 (D5) hgB.2 (.int .i64 mb) (.int .i64 mr) (.int .i64 mu) (.int .i64 me) (.string mh) (.string mt)
            go_wp2_with fail
            go_meet
            exact ⟨gB, rfl, hide ⟨bx, bb, hgB⟩⟩
        · go_simp
          have x6 := (Below.refl y0.heap.size y0).alloc (Nat.le_refl _) (.cells #[.int .i64 0, .int .i64 0, .int .i64 0, .int .i64 0, .string ⟨#[]⟩, .string ⟨#[]⟩] 47)
          have g6 := push_get y0 (.cells #[.int .i64 0, .int .i64 0, .int .i64 0, .int .i64 0, .string ⟨#[]⟩, .string ⟨#[]⟩] 47)
          have D6 := D0.trans (x6.mono D0.size)
          refine unhide hK _ _ (fun _ => unhide HSW _ D6) ?_
          clear hK K
          refine anyL_ready (rs := [2]) (by kernel_rfl) (by simp) ?_
          refine AllL.cons rfl (fun K hK => ?_) AllL.nil
          refine step_meas rfl _ rfl va a rfl (unhide HNA _ D6) ?_
          intro z7 x7
          simp only [Act.put, List.getElem_toArray, List.getElem_cons_zero, List.getElem_cons_succ, List.setIfInBounds_toArray, List.set_cons_zero, List.set_cons_succ]
          have D7 := D6.trans (x7.mono D6.size)
          have g7 := bk9_on g6 x7
          refine unhide hK _ _ (fun _ => unhide HSW _ D7) ?_
          clear hK K
          refine anyL_ready (rs := [3]) (by kernel_rfl) (by simp) ?_
          refine AllL.cons rfl (fun K hK => ?_) AllL.nil
          go_simp
          refine (unhide HBO _ D7).mono ?_
          rintro e z8 ⟨rfl, x8⟩
          have D8 := D7.trans (x8.mono D7.size)
          have g8 := bk9_on g7 x8
          refine unhide hK _ _ (fun _ => unhide HSW _ D8) ?_
          clear hK K
          have hgB : gA ≠ y0.heap.size ∧ w3.heap.size ≤ y0.heap.size := ⟨by have := unhide HGA; have := D0.size; omega, by have := D0.size; omega⟩
          generalize y0.heap.size = gB at *
          obtain ⟨u0, u1, u2, u3, u4, u5, uf⟩ := cells6 g8
          have w0 := uf 0
          have w1 := uf 1
          have w2 := uf 2
          have w3 := uf 3
          have w4 := uf 4
          have w5 := uf 5
          clear uf
          refine anyL_ready (rs := [5]) (by kernel_rfl) (by simp) ?_
          refine AllL.cons rfl (fun K hK => ?_) AllL.nil
          go_simp
          refine unhide hK _ _ (fun h => absurd h (by decide)) ?_
          clear hK K
          refine anyL_done (by kernel_rfl) ?_ _
          have bx := box6_all g8 (.int .i64 mb) (.int .i64 mr) (.int .i64 mu) (.int .i64 me) (.string mh) (.string mt)
          have bb := below6 (D8) hgB.2 (.int .i64 mb) (.int .i64 mr) (.int .i64 mu) (.int .i64 me) (.string mh) (.string mt)
          go_wp2_with fail
          go_meet
          exact ⟨gB, rfl, hide ⟨bx, bb, hgB⟩⟩
      case rest =>
        obtain ⟨gB, rfl, HC⟩ := hcut
        have hc := unhide HC
        obtain ⟨p0, p1, p2, p3, p4, p5, pf⟩ := cells6 hc.1
        have HE1 := hide (unhide HEN _ hc.2.1)
        clear pf hc HEN HBO HNA HSW D0
        go_wp2_with fail
        refine (unhide HE1).mono ?_
        rintro y w5 ⟨rfl, x5⟩
        dsimp only
        have hcb := bk9_on (unhide HC).1 x5
        have X5 := (unhide HC).2.1.trans (x5.mono (unhide HC).2.1.size)
        have hca := bk9_on (unhide HC3) X5
        have B5 := (unhide HB3).trans (X5.mono (unhide HB3).size)
        clear p0 p1 p2 p3 p4 p5 HE1
        cases pv with
        | true =>
          go_wp2_with fail
          go_roundw
          case rel =>
            refine ⟨⟨_, rfl⟩, ⟨_, rfl⟩, ⟨_, rfl⟩, a, k, hide ⟨IsNd.on X5 (unhide NAA), (unhide HAB).1.symm, ?_, (unhide HI).no, (unhide HPV).symm, hca, B5⟩⟩
            have := unhide HL
            have := unhide HAB
            omega
          case measure =>
            rw [unhide HMU, ndMu_of (IsNd.on X5 (unhide NAA))]
            have := unhide HAB
            have := unhide HAP
            omega
        | false =>
          obtain ⟨p0, p1, p2, p3, p4, p5, _⟩ := cells6 hcb
          have hca' := hca
          rw [(unhide HX).1] at hca'
          obtain ⟨q0, q1, q2, q3, q4, q5, qf⟩ := cells6 hca'
          have f0 := qf 0
          have f1 := qf 1
          have f2 := qf 2
          have f3 := qf 3
          have f4 := qf 4
          have f5 := qf 5
          clear qf
          have bx := box6_all hca' (.int .i64 mb) (.int .i64 mr) (.int .i64 mu) (.int .i64 me) (.string mh) (.string mt)
          have HBX := hide bx
          have HOT : Hid (∀ j, j ≠ gA → (((((((w5.setCell ⟨gA, 0, none⟩ (.int .i64 mb)).setCell ⟨gA, 1, none⟩ (.int .i64 mr)).setCell ⟨gA, 2, none⟩ (.int .i64 mu)).setCell ⟨gA, 3, none⟩ (.int .i64 me)).setCell ⟨gA, 4, none⟩ (.string mh)).setCell ⟨gA, 5, none⟩ (.string mt))).heap[j]? = w5.heap[j]?) := hide fun j hj => by
            rw [Below.heap_setCell _ ⟨gA, 5, none⟩ _ j hj, Below.heap_setCell _ ⟨gA, 4, none⟩ _ j hj, Below.heap_setCell _ ⟨gA, 3, none⟩ _ j hj, Below.heap_setCell _ ⟨gA, 2, none⟩ _ j hj, Below.heap_setCell _ ⟨gA, 1, none⟩ _ j hj, Below.heap_setCell _ ⟨gA, 0, none⟩ _ j hj]
          have HB6 := hide (below6 (w := w) B5 (g := gA) (by omega) (.int .i64 mb) (.int .i64 mr) (.int .i64 mu) (.int .i64 me) (.string mh) (.string mt))
          clear bx
          go_wp2_with fail
          have nb5 := IsNd.on X5 (unhide NB)
          have nb6 := IsNd.but hca (fun j _ hj => unhide HOT j hj) nb5
          go_roundw
          case rel =>
            refine ⟨⟨_, rfl⟩, ⟨_, rfl⟩, ⟨_, rfl⟩, b, k + a.txt.length, hide ⟨nb6, (unhide HAB).2.1.symm, ?_, (unhide HPV).symm, ?_, ?_, unhide HB6⟩⟩
            · have := unhide HL
              have := unhide HAB
              omega
            · have h9 := (unhide HI).yes
              rw [(unhide HAB).2.2, ← Nat.add_assoc] at h9
              exact h9
            · rw [(unhide HX).2]
              exact unhide HBX
          case measure =>
            rw [unhide HMU, ndMu_of nb6]
            have := unhide HAB
            have := unhide HAP
            omega
    · have t2 : decide ((1 : Int) < (t1.txt.length : Int)) = false := decide_eq_false (by omega)
      have t3 : ¬ (1 : Int) < (t1.txt.length : Int) := by omega
      have ht1 : t1.txt.length = 1 := by omega
      have HT1 := hide ht1
      have hwk : IntKind.i64.wrap ((k : Int) + 1) = (k : Int) + 1 := by rw [IntKind.wrap_i64]; omega
      clear hmu hl hmm hI hpos ht1 c
      go_wp2_with fail
      refine (unhide HS).mono ?_
      rintro y w2 ⟨rfl, x2⟩
      dsimp only
      have c2 := bk9_on (unhide HI).c x2
      rw [hx] at c2
      obtain ⟨p0, p1, p2, p3, p4, p5, pf⟩ := cells6 c2
      have B2 := hide ((unhide HI).b.trans (x2.mono (unhide HI).b.size))
      clear pf c2 HS
      go_wp2_with fail
      refine bodyPost_ret (v := .int .i64 ((k + 1 : Nat) : Int)) (by simp [results, Tryz.results113, go_sem]) rfl ⟨k + 1, rfl, by omega, ?_, ?_, ?_, unhide B2⟩
      · have := unhide HL; have := unhide HT1; omega
      · exact (unhide HI).no
      · have := (unhide HI).yes
        rw [unhide HT1] at this
        exact this
end
section
attribute [local go_sem] Oper.semAt_some
def FirA (p : List Int → Bool) (T : List Int) (n : Int) : Prop :=
  (p [] = true ∧ n = 0) ∨ (p [] = false ∧ p T = false ∧ n = -1) ∨ (p [] = false ∧ ∃ m : Nat, n = (m : Int) ∧ 0 < m ∧ m ≤ T.length ∧ p (T.take (m - 1)) = false ∧ p (T.take m) = true)
theorem fnn9 (f : Nat) (lb : Array Value) (w : World) : (binOp .eql 166 (.func (.func f) #[] lb) .nilFunc).run Tryz.prog w = .ok (.bool false) w := by kernel_rfl
theorem zero_we9 : weV (ofL []) = .agg #[.int .i64 0, .int .i64 0, .int .i64 0, .int .i64 0, .string ⟨#[]⟩, .string ⟨#[]⟩] := rfl
theorem First9_at (rp : Value) (o : Option Nd) (fid : Nat) (lb : Array Value) (p : List Int → Bool) (w : World) (h : RoV w rp o) (hm : (txtO o).length ≤ 268435456) (hW : Wt w) (eg : ∀ args w, (callFunc fid args).run Tryz.prog w = .ok (.enter fid args) w)
    (hA : ∀ k X, k ≤ (txtO o).length → Below w.heap.size w X → Calls Tryz.prog fid (#[weV (ofL ((txtO o).take k))] ++ lb) X fun y X' => y = .returned (.bool (p ((txtO o).take k))) ∧ Below X.heap.size X X') :
    Calls Tryz.prog 88 #[rp, .func (.func fid) #[] lb] w fun y w' => ∃ n : Int, y = .returned (.int .i64 n) ∧ FirA p (txtO o) n ∧ Below w.heap.size w w' := by
  have hfn := fnn9
  obtain ⟨v, ht, hv⟩ := h
  have h0 := hA 0 w (Nat.zero_le _) (Below.refl _ _)
  rw [List.take_zero, zero_we9] at h0
  have H0 := hide h0
  have HA := hide hA
  have HT := hide fun (X : World) (hx : Below w.heap.size w X) => topV9_at rp v X (ht.on hx)
  have HV := hide fun (X : World) (hx : Below w.heap.size w X) => NdV.on hx hv
  have HW := hide fun (X : World) (hx : Below w.heap.size w X) => hW.below hx
  have HM := hide hm
  obtain ⟨pn, hpn⟩ : ∃ pn, pn = p [] := ⟨_, rfl⟩
  rw [← hpn] at H0
  have HPN := hide hpn
  clear h0 hA ht hW hm hpn
  go_enter Tryz.func88, Tryz.ntmps88
  go_wp2_with fail
  refine (unhide H0).mono ?_
  rintro y w1 ⟨rfl, x1⟩
  dsimp only
  cases pn with
  | true =>
    go_wp2_with fail
    refine bodyPost_ret (results_tmp rfl _ _ _) rfl ⟨0, rfl, .inl ⟨(unhide HPN).symm, rfl⟩, x1⟩
  | false =>
    go_wp2_with fail
    refine (unhide HT w1 x1).mono ?_
    rintro y w2 ⟨rfl, rfl⟩
    dsimp only
    cases o with
    | none =>
      obtain rfl : v = .nilIface := hv
      go_wp2_with fail
      refine bodyPost_ret (results_tmp rfl _ _ _) rfl ⟨-1, rfl, .inr (.inl ⟨(unhide HPN).symm, (unhide HPN).symm, rfl⟩), x1⟩
    | some t =>
      have hn := ifn9
      have hN : IsNd w2 v t := unhide HV w2 x1
      obtain ⟨T, u, rfl⟩ := hN.form
      have HNN := hide hN
      have hT := unhide HA t.txt.length
      rw [show ((txtO (some t)).take t.txt.length) = t.txt from List.take_length] at hT
      have H2 := hide fun (X : World) (hx : Below w.heap.size w X) => hT X (Nat.le_refl _) hx
      obtain ⟨pt, hpt⟩ : ∃ pt, pt = p t.txt := ⟨_, rfl⟩
      rw [← hpt] at H2
      have HPT := hide hpt
      have HX1 := hide x1
      clear hN hT hpt x1 hv H0
      go_wp2_with (refine wpList_meas rfl (.tmp 17) rfl (.iface T u) t rfl (unhide HNN) ?_)
      intro w3 x3
      have D3 := (unhide HX1).trans (x3.mono (unhide HX1).size)
      have HE := hide (unhide H2 w3 D3)
      have N3 := hide (IsNd.on x3 (unhide HNN))
      clear x3 HNN H2
      generalize weV (ofL t.txt) = WT at *
      go_wp2_with fail
      refine (unhide HE).mono ?_
      rintro y w4 ⟨rfl, x4⟩
      dsimp only
      have D4 := D3.trans (x4.mono D3.size)
      have N4 := hide (IsNd.on x4 (unhide N3))
      clear HE N3 x4 D3
      cases pt with
      | false =>
        go_wp2_with fail
        refine bodyPost_ret (results_tmp rfl _ _ _) rfl ⟨-1, rfl, .inr (.inl ⟨(unhide HPN).symm, (unhide HPT).symm, rfl⟩), D4⟩
      | true =>
        have HSH := hide (shortest9_at t.txt t rfl (.iface T u) fid lb p w4 (unhide N4) (unhide HM) (unhide HW w4 D4) eg (fun k X hk hx => unhide HA k X hk (D4.trans (hx.mono D4.size))) (unhide HPN).symm (unhide HPT).symm)
        have HD := hide D4
        clear D4 N4
        go_wp2_with fail
        refine (unhide HSH).mono ?_
        rintro y w5 ⟨n, rfl, h1, h2, h3, h4, x5⟩
        dsimp only
        have HF : Hid (FirA p (txtO (some t)) (n : Int)) := hide (.inr (.inr ⟨(unhide HPN).symm, n, rfl, h1, h2, h3, h4⟩))
        clear h1 h2 h3 h4
        go_wp2_with fail
        refine bodyPost_ret (results_tmp rfl _ _ _) rfl ⟨(n : Int), rfl, unhide HF, (unhide HD).trans (x5.mono (unhide HD).size)⟩
end
section
attribute [local go_sem] Oper.semAt_some
end
end Go.Proofs.YteamaneompijkaaGreatDoor
