/- Layer 13: measure, Valid, Lens. -/
import Derived.Test.YtkdnanlgkedjgabDoorDn38

namespace Go.Proofs.YtkdnanlgkedjgabDoor
open Go.ChangeShapes Go.WideShapes Go.ChangeAt Go.RowKit
attribute [local go_sem] Oper.semAt_some

theorem satD_add (a n : Nat) : satD (satD a + n) = satD (a + n) := by unfold satD; omega
theorem satD_le (n : Nat) : satD n ≤ 268435457 := by unfold satD; omega
def NnD (o : Dop) : Prop := (o.k = 1 ∨ o.k = 3) → 0 ≤ o.n
theorem getD_memD {d : List Dop} {k : Nat} (hk : k < d.length) : d.getD k opZ ∈ d := by
  rw [List.getD_eq_getElem?_getD, List.getElem?_eq_getElem hk]; exact List.getElem_mem hk
theorem frD_take (d : List Dop) {k : Nat} (hk : k < d.length) : frD (d.take (k + 1)) = frD (d.take k) + frN (d.getD k opZ) := sumD_take frN d hk
theorem toD_take (d : List Dop) {k : Nat} (hk : k < d.length) : toD (d.take (k + 1)) = toD (d.take k) + toN (d.getD k opZ) := sumD_take toN d hk
theorem resZ {X : World} {a : Nat} {f t : Nat} (tmps : Array Value) (g2 : tmps[2]?.getD undef = .pointer (some ⟨a, 0, none⟩)) (h : IsZ X a f t) : (results Tryd.f17 tmps).run Tryd.prog X = .ok (.agg #[.int .i64 (f : Int), .int .i64 (t : Int)]) X := by
  obtain ⟨p0, p1, _, _⟩ := h.cells
  simp [results, Tryd.results17, go_sem, g2, p0, p1]
/-- what measure keeps -/
structure MeI (w : World) (gR gZ : Nat) (f t : Nat) (X : World) : Prop where
  d : Below w.heap.size w X
  r : IsZ X gR 0 0
  z : IsZ X gZ f t
  l : w.heap.size ≤ gR ∧ gR < gZ
theorem MeI.alloc {w : World} {gR gZ f t : Nat} {X : World} (h : MeI w gR gZ f t X) (o : Obj) : MeI w gR gZ f t (X.alloc o) := ⟨h.d.alloc h.d.size o, Cls.alloc h.r o, Cls.alloc h.z o, h.l⟩
theorem MeI.go {w : World} {gR gZ f t f' t' : Nat} {X Y : World} (h : MeI w gR gZ f t X) (hz : IsZ Y gZ f' t') (hb : Below gZ X Y) : MeI w gR gZ f' t' Y :=
  ⟨h.d.trans (hb.mono (by have := h.l; omega)), Cls.below h.r hb h.l.2, hz, h.l⟩
set_option maxRecDepth 100000 in
set_option maxHeartbeats 2000000 in
theorem measure_at (a : Option Addr) (c : Nat) (d : List Dop) (w : World) (h : IsO w a d) (hl : d.length ≤ 4611686018427387904) (hn : ∀ o ∈ d, NnD o) :
    Calls Tryd.prog 17 #[.slice a d.length c] w fun y w' => y = .returned (.agg #[.int .i64 (satD (frD d) : Int), .int .i64 (satD (toD d) : Int)]) ∧ Below w.heap.size w w' := by
  have z0 : (w.alloc (.cells #[.int .i64 0, .int .i64 0] 44)).heap.size = w.heap.size + 1 := World.size_alloc ..
  have HI0 : Hid (MeI w w.heap.size (w.heap.size + 1) 0 0 ((w.alloc (.cells #[.int .i64 0, .int .i64 0] 44)).alloc (.cells #[.int .i64 0, .int .i64 0] 44))) := hide (by
    refine ⟨((Below.refl _ _).alloc (Nat.le_refl _) _).alloc (by omega) _, ?_, ?_, Nat.le_refl _, by omega⟩
    · exact Cls.alloc (Cls.new w 44 #[.int .i64 0, .int .i64 0]) _
    · have := Cls.new (w.alloc (.cells #[.int .i64 0, .int .i64 0] 44)) 44 #[.int .i64 0, .int .i64 0]
      rw [z0] at this
      exact this)
  have HE : Hid (∀ X gR gZ, MeI w gR gZ 0 0 X → Calls Tryd.prog 18 #[.slice a d.length c, .func (.func 32) #[.pointer (some ⟨gZ, 0, none⟩)] #[], .func (.func 33) #[.pointer (some ⟨gZ, 0, none⟩)] #[], .func (.func 34) #[.pointer (some ⟨gZ, 0, none⟩)] #[]] X
      fun y X' => y = .returned (.tuple #[]) ∧ MeI w gR gZ (satD (frD d)) (satD (toD d)) X') := hide fun X gR gZ hX => by
    have := each_at a c w.heap.size d X 32 33 34 (.pointer (some ⟨gZ, 0, none⟩))
      (fun k Y => MeI w gR gZ (satD (frD (d.take k))) (satD (toD (d.take k))) Y ∧ Below w.heap.size X Y)
      (enters_of Tryd.func32 (by kernel_rfl) rfl) (enters_of Tryd.func33 (by kernel_rfl) rfl) (enters_of Tryd.func34 (by kernel_rfl) rfl)
      (fun Y hY => h.below (hX.d.trans hY) (Nat.le_refl _)) (fun k Y hY => hY.2) (fun k Y o hY => ⟨hY.1.alloc o, hY.2.alloc (Nat.le_trans hX.d.size hY.2.size) o⟩) ⟨hX, Below.refl _ _⟩ hl
      (fun k Y hk h1 hY => by
        obtain ⟨m, hm⟩ : ∃ m : Nat, (d.getD k opZ).n = (m : Int) := ⟨(d.getD k opZ).n.toNat, by have := hn _ (getD_memD hk) (.inl h1); omega⟩
        rw [hm]
        refine (zkeep_at gZ _ _ m Y hY.1.z (satD_le _) (satD_le _)).mono fun y Z ⟨e, hz, hb⟩ => ⟨e, ?_, hY.2.trans (hb.mono (by have := hX.l; omega))⟩
        rw [satD_add, satD_add] at hz
        rw [frD_take d hk, toD_take d hk, show frN (d.getD k opZ) = m by unfold frN; rw [if_pos (.inl h1), hm]; simp, show toN (d.getD k opZ) = m by unfold toN; rw [if_pos h1, hm]; simp]
        exact hY.1.go hz hb)
      (fun k Y hk h1 hY => by
        refine (zput_at gZ _ _ (d.getD k opZ).t.length (strOfNums (d.getD k opZ).t) Y hY.1.z (satD_le _) (strOfNums_size _)).mono fun y Z ⟨e, hz, hb⟩ => ⟨e, ?_, hY.2.trans (hb.mono (by have := hX.l; omega))⟩
        rw [satD_add] at hz
        rw [frD_take d hk, toD_take d hk, show frN (d.getD k opZ) = 0 by unfold frN; rw [h1]; rfl, show toN (d.getD k opZ) = (d.getD k opZ).t.length by unfold toN; rw [h1]; rfl]
        exact hY.1.go hz hb)
      (fun k Y hk h1 hY => by
        obtain ⟨m, hm⟩ : ∃ m : Nat, (d.getD k opZ).n = (m : Int) := ⟨(d.getD k opZ).n.toNat, by have := hn _ (getD_memD hk) (.inr h1); omega⟩
        rw [hm]
        refine (zdrop_at gZ _ _ m Y hY.1.z (satD_le _)).mono fun y Z ⟨e, hz, hb⟩ => ⟨e, ?_, hY.2.trans (hb.mono (by have := hX.l; omega))⟩
        rw [satD_add] at hz
        rw [frD_take d hk, toD_take d hk, show frN (d.getD k opZ) = m by unfold frN; rw [if_pos (.inr h1), hm]; simp, show toN (d.getD k opZ) = 0 by unfold toN; rw [h1]; rfl]
        exact hY.1.go hz hb)
      (fun k Y hk h1 h2 h3 hY => by
        rw [frD_take d hk, toD_take d hk, show frN (d.getD k opZ) = 0 by unfold frN; rw [if_neg (by omega)], show toN (d.getD k opZ) = 0 by unfold toN; rw [if_neg h1, if_neg h2]]
        exact hY)
    rw [List.take_length] at this
    exact this.mono fun y Y ⟨e, hY, _⟩ => ⟨e, hY⟩
  clear h hn
  generalize satD (frD d) = F at *
  generalize satD (toD d) = T at *
  go_enter Tryd.func17, Tryd.ntmps17
  go_upto_region 2 with fail
  try rw [z0]
  clear z0
  generalize (w.alloc (.cells #[.int .i64 0, .int .i64 0] 44)).alloc (.cells #[.int .i64 0, .int .i64 0] 44) = w1 at *
  generalize w.heap.size + 1 = gZ at *
  generalize hgR : w.heap.size = gR at HI0 ⊢
  clear hgR
  go_wp2_with fail
  refine (unhide HE w1 gR gZ (unhide HI0)).mono ?_
  rintro y w2 ⟨rfl, hI⟩
  dsimp only
  obtain ⟨c0, c1, _, _⟩ := hI.z.cells
  obtain ⟨e0, e1, f0, f1⟩ := hI.r.cells
  have HR := hide ((hI.r.set0 F).set1 T)
  have HB := hide ((hI.d.setCell (p := ⟨gR, 0, none⟩) hI.l.1 (.int .i64 (F : Int))).setCell (p := ⟨gR, 1, none⟩) hI.l.1 (.int .i64 (T : Int)))
  clear hI HI0 HE
  go_wp2_with fail
  refine bodyPost_ret (resZ _ rfl (unhide HR)) rfl ⟨rfl, unhide HB⟩
set_option maxRecDepth 100000 in
theorem long_at (f t : Nat) (w : World) (hf : f ≤ 4611686018427387904) (ht : t ≤ 4611686018427387904) :
    Calls Tryd.prog 54 #[.agg #[.int .i64 (f : Int), .int .i64 (t : Int)]] w fun y w' => y = .returned (.bool (decide (268435456 < f ∨ 268435456 < t))) ∧ Below w.heap.size w w' := by
  have kZ := Cls.new w 44 #[.int .i64 (f : Int), .int .i64 (t : Int)]
  have b0 := (Below.refl w.heap.size w).alloc (Nat.le_refl _) (.cells #[.int .i64 (f : Int), .int .i64 (t : Int)] 44)
  have c0 := (Cls.cell kZ 0)
  have c1 := (Cls.cell kZ 1)
  simp only [List.getElem?_toArray, List.getElem?_cons_zero, List.getElem?_cons_succ] at c0 c1
  obtain ⟨v, hv⟩ : ∃ v, v = decide (268435456 < f ∨ 268435456 < t) := ⟨_, rfl⟩
  rw [← hv]
  have HV := hide hv
  have HM : Hid ((f : Int) ≤ 4611686018427387904 ∧ (t : Int) ≤ 4611686018427387904) := hide ⟨by omega, by omega⟩
  clear kZ hf ht hv
  have HF : Hid (∃ z : Int, z = (f : Int)) := hide ⟨_, rfl⟩
  obtain ⟨F, hF⟩ := unhide HF
  obtain ⟨T, hT⟩ : ∃ z : Int, z = (t : Int) := ⟨_, rfl⟩
  rw [← hF] at c0 b0 ⊢
  rw [← hT] at c1 b0 ⊢
  have HFT := hide (And.intro hF hT)
  rw [← hT] at c0
  rw [← hF] at c1
  clear hF hT HF
  go_enter Tryd.func54, Tryd.ntmps54
  go_wp2_with fail
  all_goals
    refine bodyPost_ret (results_tmp rfl _ _ _) rfl ⟨?_, b0⟩
    obtain ⟨h1, h2⟩ := unhide HFT
    rw [unhide HV]
    exact congrArg (fun x => Ending.returned (.bool x)) (by rw [decide_eq_decide]; omega)

end Go.Proofs.YtkdnanlgkedjgabDoor
