/- Layer 7: contracts of lines' size, known, last, Line, Spot. -/
import Derived.Test.YtdmkgocddikobaaDoorLnd
namespace Go.Proofs.YtdmkgocddikobaaDoor
open Go.ChangeShapes Go.WideShapes Go.ChangeAt Go.RowKit
attribute [local go_sem] Oper.semAt_some

theorem size_at (a0 : Option Addr) (cap : Nat) (l : List Int) (r : Int) (w : World) (hB : IsB w a0 cap l) (hT : Tab w) :
    Calls Tryd.prog 19 #[.slice a0 l.length cap, .int .i64 r] w fun y w' => y = .returned (.int .i64 (szE r l : Int)) ∧ Below w.heap.size w w' := by
  have k1 := Size_at a0 cap l r w hB hT
  go_enter Tryd.func19, Tryd.ntmps19
  go_wp2_with fail
  refine k1.mono ?_
  rintro y w1 ⟨rfl, b1⟩
  go_wp2_with fail
  go_ret
  exact ⟨rfl, b1⟩
def knR (r m : Int) : Int := if isRu r && isRu m then 0 else 3
theorem known_val (r m : Int) : toR r 0 r m (EE []) = knR r m := by
  unfold toR knR
  have hE : EE [] = [e0] := by unfold EE; rw [spots_end (by simp)]; rfl
  cases h1 : isRu r with
  | false => rfl
  | true =>
    cases h2 : isRu m with
    | false => rfl
    | true =>
      have h := at_edge (inc_EE (l := []) (by simp) r) (j := 0) (by rw [hE]; simp) m
      rw [hE] at h ⊢
      have hb : byE r e0 = 0 := by_e0 r
      have hg : [e0].getD 0 e0 = e0 := rfl
      rw [hg, hb] at h
      exact h.2.2.1
theorem isB_nil (w : World) : IsB w none 0 [] := ⟨Nat.le_refl _, by simp, Or.inl rfl, by simp⟩
theorem known_at (r m : Int) (w : World) (hT : Tab w) :
    Calls Tryd.prog 24 #[.int .i64 r, .int .i64 m] w fun y w' => y = .returned (.int .i64 (knR r m)) ∧ Below w.heap.size w w' := by
  have k1 := To_at none 0 [] r 0 r m w (isB_nil w) hT
  rw [known_val, List.length_nil] at k1
  go_enter Tryd.func24, Tryd.ntmps24
  go_wp2_with fail
  refine k1.mono ?_
  rintro y w1 ⟨rfl, b1⟩
  go_wp2_with fail
  go_ret
  exact ⟨rfl, b1⟩
theorem last_at (e : Ln) (w : World) (h1 : e.2.2.1 ≤ 9223372036854775807) (h2 : e.2.2.2 ≤ 9223372036854775807) :
    Calls Tryd.prog 28 #[lnV e] w fun y w' => y = .returned (.int .i64 (lst e : Int)) ∧ Below w.heap.size w w' := by
  have hw : wrap64 ((e.2.2.2 : Int) - 1) = (e.2.2.2 : Int) - 1 := wrap_in _ (by omega) (by omega)
  have HM : Hid ((lst e : Int) = max (e.2.2.1 : Int) ((e.2.2.2 : Int) - 1)) := hide (by unfold lst; omega)
  have b1 := (Below.refl w.heap.size w).alloc (Nat.le_refl _) (.cells #[.int .i64 (e.2.1 : Int), .int .i64 (e.2.2.1 : Int), .int .i64 (e.2.2.2 : Int)] 66)
  unfold lnV
  clear h1 h2
  go_enter Tryd.func28, Tryd.ntmps28
  go_wp2_with fail
  all_goals go_ret
  all_goals refine ⟨ret_int ?_, b1⟩
  all_goals (have := unhide HM; omega)
def liV (o : Option Ln) : Value := match o with | some e => .tuple #[.int .i64 (e.2.1 : Int), .int .i64 (e.2.2.1 : Int), .int .i64 (e.2.2.2 : Int), .int .i64 0] | none => .tuple #[.int .i64 0, .int .i64 0, .int .i64 0, .int .i64 2]
/-- Spot's answer -/
def spV (l : List Int) (place r : Int) : Value := if isRu r then (if place < 0 ∨ (l.length : Int) < place then .tuple #[.agg #[.int .i64 0, .int .i64 0], .int .i64 2] else .tuple #[.agg #[.int .i64 ((lnOf l (flr l place.toNat)).1 : Int), .int .i64 (colE l (flr l place.toNat) r : Int)], .int .i64 0]) else .tuple #[.agg #[.int .i64 0, .int .i64 0], .int .i64 3]
theorem resS {X : World} {a : Nat} {t : TypeId} {x y : Int} {v : Value} (tmps : Array Value) (g6 : tmps[6]?.getD undef = .pointer (some ⟨a, 0, none⟩)) (g7 : tmps[7]?.getD undef = v)
    (h1 : Cls X a t #[.int .i64 x, .int .i64 y]) : (results Tryd.f10 tmps).run Tryd.prog X = .ok (.tuple #[.agg #[.int .i64 x, .int .i64 y], v]) X := by
  have p0 : X.cell? ⟨a, 0, none⟩ = some (.int .i64 x) := (h1.cell 0).trans rfl
  have p1 : X.cell? ⟨a, 1, none⟩ = some (.int .i64 y) := (h1.cell 1).trans rfl
  simp [results, Tryd.results10, go_sem, g6, g7, p0, p1]

set_option maxRecDepth 100000 in
set_option maxHeartbeats 2000000 in
theorem Spot_at (a0 : Option Addr) (cap : Nat) (l : List Int) (place r : Int) (w : World) (hB : IsB w a0 cap l) (hT : Tab w) :
    Calls Tryd.prog 10 #[.slice a0 l.length cap, .int .i64 place, .int .i64 r] w fun y w' => y = .returned (spV l place r) ∧ Below w.heap.size w w' := by
  have kS := Cls.new w 35 #[.int .i64 0, .int .i64 0]
  have b0 := (Below.refl w.heap.size w).alloc (Nat.le_refl _) (.cells #[.int .i64 0, .int .i64 0] 35)
  have hB0 := hB.below b0 (Nat.le_refl _)
  have hT0 := hT.below b0 hT.size
  go_enter Tryd.func10, Tryd.ntmps10
  go_wp2_with fail
  generalize w.alloc (.cells #[.int .i64 0, .int .i64 0] 35) = w0 at *
  refine (known_at r 3 w0 hT0).mono ?_
  rintro y w1 ⟨rfl, b1⟩
  have b01 := b0.trans (b1.mono b0.size)
  have kS1 := kS.below b1 kS.lt
  have hB1 := hB.below b01 (Nat.le_refl _)
  have hT1 := hT.below b01 hT.size
  clear kS hB0 hT0 b1
  have sets : ∀ (Y : World) (x y : Int), Cls Y w.heap.size 35 #[.int .i64 0, .int .i64 0] → Cls ((Y.setCell ⟨w.heap.size, 0, none⟩ (.int .i64 x)).setCell ⟨w.heap.size, 1, none⟩ (.int .i64 y)) w.heap.size 35 #[.int .i64 x, .int .i64 y] ∧ Below w.heap.size Y ((Y.setCell ⟨w.heap.size, 0, none⟩ (.int .i64 x)).setCell ⟨w.heap.size, 1, none⟩ (.int .i64 y)) := fun Y x y h => by
    have h1 := (h.set 0 (.int .i64 x)).set 1 (.int .i64 y)
    simp only [List.setIfInBounds_toArray, List.set_cons_zero, List.set_cons_succ] at h1
    exact ⟨h1, (setCell_below (N := w.heap.size) Y ⟨w.heap.size, 0, none⟩ (.int .i64 x) (Nat.le_refl _)).trans (setCell_below (N := w.heap.size) _ ⟨w.heap.size, 1, none⟩ (.int .i64 y) (Nat.le_refl _))⟩
  have HST := hide sets
  clear sets
  cases hr : isRu r with
  | false =>
    have HV : Hid (spV l place r = .tuple #[.agg #[.int .i64 0, .int .i64 0], .int .i64 3]) := hide (by unfold spV; rw [hr]; rfl)
    have hk : knR r 3 = 3 := by unfold knR; rw [hr]; rfl
    rw [hk]
    have c0 := kS1.cell 0
    have c1 := kS1.cell 1
    have f0 := kS1.frozen 0
    have f1 := kS1.frozen 1
    simp only [List.getElem?_toArray, List.getElem?_cons_zero, List.getElem?_cons_succ] at c0 c1
    go_wp2_with fail
    obtain ⟨s1, s2⟩ := unhide HST w1 0 0 kS1
    refine bodyPost_ret (resS _ rfl rfl s1) rfl ?_
    rw [unhide HV]
    exact ⟨rfl, b01.trans s2⟩
  | true =>
    have hk : knR r 3 = 0 := by unfold knR; rw [hr]; rfl
    rw [hk]
    go_wp2_with fail
    refine (Floor_at a0 cap place l w1 hB1 hT1).mono ?_
    rintro y w2 ⟨rfl, b2⟩
    have b02 := b01.trans (b2.mono b01.size)
    have kS2 := kS1.below b2 kS1.lt
    have hB2 := hB.below b02 (Nat.le_refl _)
    have hT2 := hT.below b02 hT.size
    clear kS1 hB1 hT1 b2 b01
    by_cases hp : place < 0 ∨ (l.length : Int) < place
    · have HV : Hid (spV l place r = .tuple #[.agg #[.int .i64 0, .int .i64 0], .int .i64 2]) := hide (by unfold spV; rw [hr, if_pos hp]; rfl)
      unfold floorV
      rw [if_pos hp]
      have c0 := kS2.cell 0
      have c1 := kS2.cell 1
      have f0 := kS2.frozen 0
      have f1 := kS2.frozen 1
      simp only [List.getElem?_toArray, List.getElem?_cons_zero, List.getElem?_cons_succ] at c0 c1
      clear hp
      go_wp2_with fail
      obtain ⟨s1, s2⟩ := unhide HST w2 0 0 kS2
      refine bodyPost_ret (resS _ rfl rfl s1) rfl ?_
      rw [unhide HV]
      exact ⟨rfl, b02.trans s2⟩
    · have hv : spV l place r = .tuple #[.agg #[.int .i64 ((lnOf l (flr l place.toNat)).1 : Int), .int .i64 (colE l (flr l place.toNat) r : Int)], .int .i64 0] := by unfold spV; rw [hr, if_neg hp]; rfl
      unfold floorV
      rw [if_neg hp]
      have hple : flr l place.toNat ≤ l.length := by have := flr_le l place.toNat; omega
      generalize flr l place.toNat = p at *
      have HV := hide hv
      clear hv hp
      obtain ⟨i, hi⟩ := ho_of hple
      have hlo := hi.lo
      have hcap := hB.1
      go_wp2_with fail
      refine (holder_at a0 cap l p w2 hB2).mono ?_
      rintro y w3 ⟨rfl, b3⟩
      have b03 := b02.trans (b3.mono b02.size)
      have kS3 := kS2.below b3 kS2.lt
      have hB3 := hB.below b03 (Nat.le_refl _)
      have hT3 := hT.below b03 hT.size
      clear kS2 hB2 hT2 b3 b02 hi
      have hLn : (cutL l (lnOf l p).2.1 p).length = p - (lnOf l p).2.1 := by unfold cutL; simp; omega
      have hSZ := size_at _ _ (cutL l (lnOf l p).2.1 p) r w3 ((hB3.takeR (n := p)).loR (n := (lnOf l p).2.1)) hT3
      rw [hLn] at hSZ
      have HCO : Hid (szE r (cutL l (lnOf l p).2.1 p) = colE l p r) := hide rfl
      have H3 := hide (And.intro hB (And.intro hT hT3))
      clear hB hT hT3 hB3 hLn
      generalize (lnOf l p).2.1 = st at *
      generalize (lnOf l p).1 = kk at *
      have fin : ∀ (y : Ending) (w4 : World), (y = .returned (.int .i64 (szE r (cutL l st p) : Int)) ∧ Below w3.heap.size w3 w4) → True := fun _ _ _ => trivial
      clear fin
      by_cases hcx : cap = st
      · rw [if_pos hcx] at hSZ
        have HS := hide hSZ
        clear hSZ
        subst hcx
        have sub0 : cap - cap = 0 := Nat.sub_self _
        rw [sub0] at HS
        go_wp2_with fail
        refine (unhide HS).mono ?_
        rintro y w4 ⟨rfl, b4⟩
        have b04 := b03.trans (b4.mono b03.size)
        have kS4 := kS3.below b4 kS3.lt
        rw [unhide HCO]
        have c0 := kS4.cell 0
        have c1 := kS4.cell 1
        have f0 := kS4.frozen 0
        have f1 := kS4.frozen 1
        simp only [List.getElem?_toArray, List.getElem?_cons_zero, List.getElem?_cons_succ] at c0 c1
        go_wp2_with fail
        obtain ⟨s1, s2⟩ := unhide HST w4 kk (colE l p r) kS4
        refine bodyPost_ret (resS _ rfl rfl s1) rfl ?_
        rw [unhide HV]
        exact ⟨rfl, b04.trans s2⟩
      · rw [if_neg hcx] at hSZ
        have HS := hide hSZ
        clear hSZ
        go_wp2_with fail
        refine (unhide HS).mono ?_
        rintro y w4 ⟨rfl, b4⟩
        have b04 := b03.trans (b4.mono b03.size)
        have kS4 := kS3.below b4 kS3.lt
        rw [unhide HCO]
        have c0 := kS4.cell 0
        have c1 := kS4.cell 1
        have f0 := kS4.frozen 0
        have f1 := kS4.frozen 1
        simp only [List.getElem?_toArray, List.getElem?_cons_zero, List.getElem?_cons_succ] at c0 c1
        go_wp2_with fail
        obtain ⟨s1, s2⟩ := unhide HST w4 kk (colE l p r) kS4
        refine bodyPost_ret (resS _ rfl rfl s1) rfl ?_
        rw [unhide HV]
        exact ⟨rfl, b04.trans s2⟩

end Go.Proofs.YtdmkgocddikobaaDoor
