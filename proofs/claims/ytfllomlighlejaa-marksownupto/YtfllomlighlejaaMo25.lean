/- Layer 13: measure, Valid, Lens. · Layer 13: the builder's close, keep and delta (written by wip/tools/dmc.py). · Layer 13: Valid, Lens, Canon. · Layer 13: Canon. · Layer 13, the document's: Copy, Same. -/
import Derived.Test.YtfllomlighlejaaMo24
import Derived.Test.YtfllomlighlejaaMo22
import Derived.Shelf.Strings.OnBuilder
import Derived.Test.YtfllomlighlejaaProg
import Derived.RegionTactic
import Derived.Test.YtfllomlighlejaaMo14
import Derived.Test.YtfllomlighlejaaMo03
import Derived.Deep.AppendSrc
import Derived.ChangeAlike

section
namespace Go.Proofs.Ytfllomlighlejaa
open Go.ChangeShapes Go.WideShapes Go.ChangeAt Go.RowKit
attribute [local go_sem] Oper.semAt_some

theorem satD_add (a n : Nat) : satD (satD a + n) = satD (a + n) := by unfold satD; omega
theorem satD_le (n : Nat) : satD n ≤ 268435457 := by unfold satD; omega
def NnD (o : Dop) : Prop := (o.k = 1 ∨ o.k = 3) → 0 ≤ o.n
theorem getD_memD {d : List Dop} {k : Nat} (hk : k < d.length) : d.getD k opZ ∈ d := by
  rw [List.getD_eq_getElem?_getD, List.getElem?_eq_getElem hk]; exact List.getElem_mem hk
theorem frD_take (d : List Dop) {k : Nat} (hk : k < d.length) : frD (d.take (k + 1)) = frD (d.take k) + frN (d.getD k opZ) := sumD_take frN d hk
theorem toD_take (d : List Dop) {k : Nat} (hk : k < d.length) : toD (d.take (k + 1)) = toD (d.take k) + toN (d.getD k opZ) := sumD_take toN d hk
theorem resZ {X : World} {a : Nat} {f t : Nat} (tmps : Array Value) (g2 : tmps[2]?.getD undef = .pointer (some ⟨a, 0, none⟩)) (h : IsZ X a f t) : (results Try.f37 tmps).run Try.prog X = .ok (.agg #[.int .i64 (f : Int), .int .i64 (t : Int)]) X := by
  obtain ⟨p0, p1, _, _⟩ := h.cells
  simp [results, Try.results37, go_sem, g2, p0, p1]
/-- what measure keeps -/
structure MeI (w : World) (gR gZ : Nat) (f t : Nat) (X : World) : Prop where
  d : Below w.heap.size w X
  r : IsZ X gR 0 0
  z : IsZ X gZ f t
  l : w.heap.size ≤ gR ∧ gR < gZ
theorem MeI.alloc {w : World} {gR gZ f t : Nat} {X : World} (h : MeI w gR gZ f t X) (o : Obj) : MeI w gR gZ f t (X.alloc o) := ⟨h.d.alloc h.d.size o, Cls.alloc h.r o, Cls.alloc h.z o, h.l⟩
theorem MeI.go {w : World} {gR gZ f t f' t' : Nat} {X Y : World} (h : MeI w gR gZ f t X) (hz : IsZ Y gZ f' t') (hb : Below gZ X Y) : MeI w gR gZ f' t' Y :=
  ⟨h.d.trans (hb.mono (by have := h.l; omega)), Cls.below h.r hb h.l.2, hz, h.l⟩
set_option maxRecDepth 100000 in
set_option maxHeartbeats 2000000 in
theorem measure_at (a : Option Addr) (c : Nat) (d : List Dop) (w : World) (h : IsO w a d) (hl : d.length ≤ 4611686018427387904) (hn : ∀ o ∈ d, NnD o) :
    Calls Try.prog 37 #[.slice a d.length c] w fun y w' => y = .returned (.agg #[.int .i64 (satD (frD d) : Int), .int .i64 (satD (toD d) : Int)]) ∧ Below w.heap.size w w' := by
  have z0 : (w.alloc (.cells #[.int .i64 0, .int .i64 0] 84)).heap.size = w.heap.size + 1 := World.size_alloc ..
  have HI0 : Hid (MeI w w.heap.size (w.heap.size + 1) 0 0 ((w.alloc (.cells #[.int .i64 0, .int .i64 0] 84)).alloc (.cells #[.int .i64 0, .int .i64 0] 84))) := hide (by
    refine ⟨((Below.refl _ _).alloc (Nat.le_refl _) _).alloc (by omega) _, ?_, ?_, Nat.le_refl _, by omega⟩
    · exact Cls.alloc (Cls.new w 84 #[.int .i64 0, .int .i64 0]) _
    · have := Cls.new (w.alloc (.cells #[.int .i64 0, .int .i64 0] 84)) 84 #[.int .i64 0, .int .i64 0]
      rw [z0] at this
      exact this)
  have HE : Hid (∀ X gR gZ, MeI w gR gZ 0 0 X → Calls Try.prog 38 #[.slice a d.length c, .func (.func 55) #[.pointer (some ⟨gZ, 0, none⟩)] #[], .func (.func 56) #[.pointer (some ⟨gZ, 0, none⟩)] #[], .func (.func 57) #[.pointer (some ⟨gZ, 0, none⟩)] #[]] X
      fun y X' => y = .returned (.tuple #[]) ∧ MeI w gR gZ (satD (frD d)) (satD (toD d)) X') := hide fun X gR gZ hX => by
    have := each_at a c w.heap.size d X 55 56 57 (.pointer (some ⟨gZ, 0, none⟩))
      (fun k Y => MeI w gR gZ (satD (frD (d.take k))) (satD (toD (d.take k))) Y ∧ Below w.heap.size X Y)
      (enters_of Try.func55 (by kernel_rfl) rfl) (enters_of Try.func56 (by kernel_rfl) rfl) (enters_of Try.func57 (by kernel_rfl) rfl)
      (fun Y hY => h.below (hX.d.trans hY) (Nat.le_refl _)) (fun k Y hY => hY.2) (fun k Y o hY => ⟨hY.1.alloc o, hY.2.alloc (Nat.le_trans hX.d.size hY.2.size) o⟩) ⟨hX, Below.refl _ _⟩ hl
      (fun k Y hk h1 hY => by
        obtain ⟨m, hm⟩ : ∃ m : Nat, (d.getD k opZ).n = (m : Int) := ⟨(d.getD k opZ).n.toNat, by have := hn _ (getD_memD hk) (.inl h1); omega⟩
        rw [hm]
        refine (zkeep_at gZ _ _ m Y hY.1.z (satD_le _) (satD_le _)).mono fun y Z ⟨e, hz, hb⟩ => ⟨e, ?_, hY.2.trans (hb.mono (by have := hX.l; omega))⟩
        rw [satD_add, satD_add] at hz
        rw [frD_take d hk, toD_take d hk, show frN (d.getD k opZ) = m by unfold frN; rw [if_pos (.inl h1), hm]; simp, show toN (d.getD k opZ) = m by unfold toN; rw [if_pos h1, hm]; simp]
        exact hY.1.go hz hb)
      (fun k Y hk h1 hY => by
        refine (zput_at gZ _ _ (d.getD k opZ).t.length (strOfNums (d.getD k opZ).t) Y hY.1.z (satD_le _) (strOfNums_size _)).mono fun y Z ⟨e, hz, hb⟩ => ⟨e, ?_, hY.2.trans (hb.mono (by have := hX.l; omega))⟩
        rw [satD_add] at hz
        rw [frD_take d hk, toD_take d hk, show frN (d.getD k opZ) = 0 by unfold frN; rw [h1]; rfl, show toN (d.getD k opZ) = (d.getD k opZ).t.length by unfold toN; rw [h1]; rfl]
        exact hY.1.go hz hb)
      (fun k Y hk h1 hY => by
        obtain ⟨m, hm⟩ : ∃ m : Nat, (d.getD k opZ).n = (m : Int) := ⟨(d.getD k opZ).n.toNat, by have := hn _ (getD_memD hk) (.inr h1); omega⟩
        rw [hm]
        refine (zdrop_at gZ _ _ m Y hY.1.z (satD_le _)).mono fun y Z ⟨e, hz, hb⟩ => ⟨e, ?_, hY.2.trans (hb.mono (by have := hX.l; omega))⟩
        rw [satD_add] at hz
        rw [frD_take d hk, toD_take d hk, show frN (d.getD k opZ) = m by unfold frN; rw [if_pos (.inr h1), hm]; simp, show toN (d.getD k opZ) = 0 by unfold toN; rw [h1]; rfl]
        exact hY.1.go hz hb)
      (fun k Y hk h1 h2 h3 hY => by
        rw [frD_take d hk, toD_take d hk, show frN (d.getD k opZ) = 0 by unfold frN; rw [if_neg (by omega)], show toN (d.getD k opZ) = 0 by unfold toN; rw [if_neg h1, if_neg h2]]
        exact hY)
    rw [List.take_length] at this
    exact this.mono fun y Y ⟨e, hY, _⟩ => ⟨e, hY⟩
  clear h hn
  generalize satD (frD d) = F at *
  generalize satD (toD d) = T at *
  go_enter Try.func37, Try.ntmps37
  go_upto_region 2 with fail
  try rw [z0]
  clear z0
  generalize (w.alloc (.cells #[.int .i64 0, .int .i64 0] 84)).alloc (.cells #[.int .i64 0, .int .i64 0] 84) = w1 at *
  generalize w.heap.size + 1 = gZ at *
  generalize hgR : w.heap.size = gR at HI0 ⊢
  clear hgR
  go_wp2_with fail
  refine (unhide HE w1 gR gZ (unhide HI0)).mono ?_
  rintro y w2 ⟨rfl, hI⟩
  dsimp only
  obtain ⟨c0, c1, _, _⟩ := hI.z.cells
  obtain ⟨e0, e1, f0, f1⟩ := hI.r.cells
  have HR := hide ((hI.r.set0 F).set1 T)
  have HB := hide ((hI.d.setCell (p := ⟨gR, 0, none⟩) hI.l.1 (.int .i64 (F : Int))).setCell (p := ⟨gR, 1, none⟩) hI.l.1 (.int .i64 (T : Int)))
  clear hI HI0 HE
  go_wp2_with fail
  refine bodyPost_ret (resZ _ rfl (unhide HR)) rfl ⟨rfl, unhide HB⟩
set_option maxRecDepth 100000 in
theorem long_at (f t : Nat) (w : World) (hf : f ≤ 4611686018427387904) (ht : t ≤ 4611686018427387904) :
    Calls Try.prog 54 #[.agg #[.int .i64 (f : Int), .int .i64 (t : Int)]] w fun y w' => y = .returned (.bool (decide (268435456 < f ∨ 268435456 < t))) ∧ Below w.heap.size w w' := by
  have kZ := Cls.new w 84 #[.int .i64 (f : Int), .int .i64 (t : Int)]
  have b0 := (Below.refl w.heap.size w).alloc (Nat.le_refl _) (.cells #[.int .i64 (f : Int), .int .i64 (t : Int)] 84)
  have c0 := (Cls.cell kZ 0)
  have c1 := (Cls.cell kZ 1)
  simp only [List.getElem?_toArray, List.getElem?_cons_zero, List.getElem?_cons_succ] at c0 c1
  obtain ⟨v, hv⟩ : ∃ v, v = decide (268435456 < f ∨ 268435456 < t) := ⟨_, rfl⟩
  rw [← hv]
  have HV := hide hv
  have HM : Hid ((f : Int) ≤ 4611686018427387904 ∧ (t : Int) ≤ 4611686018427387904) := hide ⟨by omega, by omega⟩
  clear kZ hf ht hv
  have HF : Hid (∃ z : Int, z = (f : Int)) := hide ⟨_, rfl⟩
  obtain ⟨F, hF⟩ := unhide HF
  obtain ⟨T, hT⟩ : ∃ z : Int, z = (t : Int) := ⟨_, rfl⟩
  rw [← hF] at c0 b0 ⊢
  rw [← hT] at c1 b0 ⊢
  have HFT := hide (And.intro hF hT)
  rw [← hT] at c0
  rw [← hF] at c1
  clear hF hT HF
  go_enter Try.func54, Try.ntmps54
  go_wp2_with fail
  all_goals
    refine bodyPost_ret (results_tmp rfl _ _ _) rfl ⟨?_, b0⟩
    obtain ⟨h1, h2⟩ := unhide HFT
    rw [unhide HV]
    exact congrArg (fun x => Ending.returned (.bool x)) (by rw [decide_eq_decide]; omega)

end Go.Proofs.Ytfllomlighlejaa
end

section
namespace Go.Proofs.Ytfllomlighlejaa
open Go.ChangeShapes Go.WideShapes Go.ChangeAt Go.RowKit
theorem rowD_drew {X : World} {B s n : Nat} {t : TypeId} {v : Value} {xs : List Value} (h : X.ownsRow B t s v n xs) : X.drew.ownsRow B t s v n xs := rowD_on h fun _ _ => rfl
theorem join_flat (l : List (List UInt8)) : Lib.join l [] = l.flatten := by
  cases l with
  | nil => rfl
  | cons x r => rw [Lib.join_cons]; simp [Lib.joinTail]
theorem str_flat (ts : List (List Int)) : (⟨(Lib.join ((ts.map strOfNums).map (·.data.toList)) (⟨#[]⟩ : ByteArray).data.toList).toArray⟩ : ByteArray) = strOfNums ts.flatten := by
  show (⟨(Lib.join _ []).toArray⟩ : ByteArray) = _
  rw [join_flat]
  unfold strOfNums
  congr 1
  rw [List.map_map, List.map_flatten]
  rfl
theorem kO_len (n : Nat) : (kO n).length ≤ 1 := by unfold kO; split <;> simp
theorem pO_len (t : List Int) : (pO t).length ≤ 1 := by unfold pO; split <;> simp
theorem dO_len (n : Nat) : (dO n).length ≤ 1 := by unfold dO; split <;> simp
/-- what a builder may hold -/
structure BdOk (b : Bld) (ts : List (List Int)) : Prop where
  o : b.ops.length ≤ 1099511627770
  k : b.kept ≤ 2305843009213693952
  d : b.dr ≤ 2305843009213693952
  t : ts.length ≤ 4398046511104
  l : b.tx.length ≤ 140737488355328
end Go.Proofs.Ytfllomlighlejaa
end

section
namespace Go.Proofs.Ytfllomlighlejaa
open Go.ChangeShapes Go.WideShapes Go.ChangeAt Go.RowKit
attribute [local go_sem] Oper.semAt_some

def lonB (d : List Dop) : Bool := decide (268435456 < frD d ∨ 268435456 < toD d)
theorem lon_sat (d : List Dop) : decide (268435456 < satD (frD d) ∨ 268435456 < satD (toD d)) = lonB d := by unfold lonB satD; rw [decide_eq_decide]; omega
def valB (d : List Dop) : Bool := d.all plB && (apL 7 d && !lonB d)
theorem plB_nn {d : List Dop} (h : d.all plB = true) : ∀ o ∈ d, NnD o := fun o ho hk => by
  have := List.all_eq_true.1 h o ho
  unfold plB at this
  rw [if_neg (by omega)] at this
  simp at this
  omega
set_option maxRecDepth 100000 in
set_option maxHeartbeats 2000000 in
theorem Valid_atD (a : Option Addr) (c : Nat) (d : List Dop) (w : World) (h : IsO w a d) (hl : d.length ≤ 4611686018427387904) :
    Calls Try.prog 36 #[.slice a d.length c] w fun y w' => y = .returned (.bool (valB d)) ∧ Below w.heap.size w w' := by
  have HP := hide (plain_at a c d w h hl)
  have HA := hide fun (X : World) (hx : Below w.heap.size w X) => apart_at a c d X (h.below hx (Nat.le_refl _)) hl
  have HM := hide fun (X : World) (hx : Below w.heap.size w X) (hp : d.all plB = true) => measure_at a c d X (h.below hx (Nat.le_refl _)) hl (plB_nn hp)
  have HL := hide fun (X : World) => long_at (satD (frD d)) (satD (toD d)) X (by have := satD_le (frD d); omega) (by have := satD_le (toD d); omega)
  rw [lon_sat] at HL
  have HV : Hid (valB d = (d.all plB && (apL 7 d && !lonB d))) := hide rfl
  clear h hl
  generalize valB d = V at *
  generalize satD (frD d) = F at *
  generalize satD (toD d) = T at *
  generalize lonB d = L at *
  generalize apL 7 d = A at *
  go_enter Try.func36, Try.ntmps36
  go_wp2_with fail
  refine (unhide HP).mono ?_
  rintro y w1 ⟨rfl, x1⟩
  dsimp only
  cases hp : d.all plB with
  | false =>
    have HV2 : Hid (V = false) := hide (by rw [unhide HV, hp]; rfl)
    clear HP HA HM HL HV hp
    go_wp2_with fail
    rw [unhide HV2]
    refine bodyPost_ret (results_tmp rfl _ _ _) rfl ⟨rfl, x1⟩
  | true =>
    have HPP := hide hp
    clear HP hp
    go_wp2_with fail
    refine (unhide HA w1 x1).mono ?_
    rintro y w2 ⟨rfl, x2⟩
    dsimp only
    have X2 := x1.trans (x2.mono x1.size)
    clear HA x1 x2
    cases A with
    | false =>
      have HV2 : Hid (V = false) := hide (by rw [unhide HV, unhide HPP]; rfl)
      clear HM HL HV HPP
      go_wp2_with fail
      rw [unhide HV2]
      refine bodyPost_ret (results_tmp rfl _ _ _) rfl ⟨rfl, X2⟩
    | true =>
      have HM2 := hide (unhide HM w2 X2 (unhide HPP))
      have HV2 : Hid (V = !L) := hide (by rw [unhide HV, unhide HPP]; rfl)
      have HX2 := hide X2
      clear HM HV HPP X2
      go_wp2_with fail
      refine (unhide HM2).mono ?_
      rintro y w3 ⟨rfl, x3⟩
      dsimp only
      have HX3 := hide ((unhide HX2).trans (x3.mono (unhide HX2).size))
      clear HM2 HX2 x3
      go_wp2_with fail
      refine (unhide HL w3).mono ?_
      rintro y w4 ⟨rfl, x4⟩
      dsimp only
      have HX4 := hide ((unhide HX3).trans (x4.mono (unhide HX3).size))
      clear HL HX3 x4
      cases L with
      | false =>
        go_wp2_with fail
        rw [unhide HV2]
        refine bodyPost_ret (results_tmp rfl _ _ _) rfl ⟨rfl, unhide HX4⟩
      | true =>
        go_wp2_with fail
        rw [unhide HV2]
        refine bodyPost_ret (results_tmp rfl _ _ _) rfl ⟨rfl, unhide HX4⟩
theorem valB_nn {d : List Dop} (h : valB d = true) : (∀ o ∈ d, NnD o) ∧ frD d ≤ 268435456 ∧ toD d ≤ 268435456 := by
  unfold valB lonB at h
  simp only [Bool.and_eq_true, Bool.not_eq_true', decide_eq_false_iff_not] at h
  exact ⟨plB_nn h.1, by omega, by omega⟩
def lensV (d : List Dop) : Value := if valB d then .tuple #[.int .i64 (frD d : Int), .int .i64 (toD d : Int), .int .i64 0] else .tuple #[.int .i64 0, .int .i64 0, .int .i64 130]
theorem results_tmp3 {P : Program} {fn : Func} {i j k : Nat} (h : fn.results = #[.tmp i, .tmp j, .tmp k]) (tmps : Array Value) (w : World) : (results fn tmps).run P w = .ok (.tuple #[tmps.getD i undef, tmps.getD j undef, tmps.getD k undef]) w := by
  simp [results, h, go_sem]
set_option maxRecDepth 100000 in
set_option maxHeartbeats 2000000 in
theorem Lens_at (a : Option Addr) (c : Nat) (d : List Dop) (w : World) (h : IsO w a d) (hl : d.length ≤ 4611686018427387904) :
    Calls Try.prog 23 #[.slice a d.length c] w fun y w' => y = .returned (lensV d) ∧ Below w.heap.size w w' := by
  have HA := hide (Valid_atD a c d w h hl)
  have HM := hide fun (X : World) (hx : Below w.heap.size w X) (hp : valB d = true) => measure_at a c d X (h.below hx (Nat.le_refl _)) hl (valB_nn hp).1
  unfold lensV
  clear h hl
  cases hv : valB d with
  | false =>
    rw [hv] at HA
    clear HM hv
    simp only [Bool.false_eq_true, if_false]
    go_enter Try.func23, Try.ntmps23
    go_wp2_with fail
    refine (unhide HA).mono ?_
    rintro y w1 ⟨rfl, x1⟩
    dsimp only
    clear HA
    go_wp2_with fail
    refine bodyPost_ret (results_tmp3 rfl _ _) rfl ⟨rfl, x1⟩
  | true =>
    have HS : Hid (satD (frD d) = frD d ∧ satD (toD d) = toD d) := hide (by have := (valB_nn hv).2; unfold satD; omega)
    have HM2 := hide fun (X : World) (hx : Below w.heap.size w X) => unhide HM X hx hv
    rw [(unhide HS).1, (unhide HS).2] at HM2
    rw [hv] at HA
    clear HM hv HS
    simp only [if_true]
    generalize frD d = F at *
    generalize toD d = T at *
    go_enter Try.func23, Try.ntmps23
    go_wp2_with fail
    refine (unhide HA).mono ?_
    rintro y w1 ⟨rfl, x1⟩
    dsimp only
    have HM3 := hide (unhide HM2 w1 x1)
    have HX1 := hide x1
    clear HA HM2 x1
    go_wp2_with fail
    refine (unhide HM3).mono ?_
    rintro y w2 ⟨rfl, x2⟩
    dsimp only
    have kZ := Cls.new w2 84 #[.int .i64 (F : Int), .int .i64 (T : Int)]
    have b0 := (Below.refl w2.heap.size w2).alloc (Nat.le_refl _) (.cells #[.int .i64 (F : Int), .int .i64 (T : Int)] 84)
    have X2 := (unhide HX1).trans (x2.mono (unhide HX1).size)
    have HX3 := hide (X2.trans (b0.mono X2.size))
    clear HM3 HX1 x2 b0 X2
    go_upto_region 4 with fail
    generalize w2.heap.size = gZ at *
    generalize w2.alloc (.cells #[.int .i64 (F : Int), .int .i64 (T : Int)] 84) = w3 at *
    obtain ⟨c0, c1, _, _⟩ := (show IsZ w3 gZ F T from kZ).cells
    clear kZ
    go_region
    go_wp2_with fail
    refine bodyPost_ret (results_tmp3 rfl _ _) rfl ⟨rfl, (unhide HX3).drew⟩

/-- texts of bytes, of a length that may be -/
def TxD (o : Dop) : Prop := o.t.length ≤ 140737488351232 ∧ ∀ x ∈ o.t, 0 ≤ x ∧ x ≤ 255
theorem kn_nn {d : List Dop} (h : d.all knB = true) : ∀ o ∈ d, NnD o := fun o ho hk => by
  have := List.all_eq_true.1 h o ho
  unfold knB at this
  simp at this
  omega
theorem kn_k {d : List Dop} (h : d.all knB = true) {o : Dop} (ho : o ∈ d) : o.k = 1 ∨ o.k = 2 ∨ o.k = 3 := by
  have := List.all_eq_true.1 h o ho
  unfold knB at this
  simp at this
  omega
theorem feedD_take (d : List Dop) {k : Nat} (hk : k < d.length) (b : Bld) : feedD b (d.take (k + 1)) = (feedD b (d.take k)).op (d.getD k opZ) := by
  unfold feedD
  rw [List.take_add_one, List.getElem?_eq_getElem hk, Option.toList_some, List.foldl_append]
  simp [List.getD_eq_getElem?_getD, List.getElem?_eq_getElem hk]
theorem fin_lenD (b : Bld) : b.fin.length ≤ b.ops.length + 3 := by
  unfold Bld.fin
  have := kO_len b.kept
  have := pO_len b.tx
  have := dO_len b.dr
  simp only [List.length_append]
  omega

end Go.Proofs.Ytfllomlighlejaa
end

section
namespace Go.Proofs.Ytfllomlighlejaa
open Go.ChangeShapes Go.WideShapes Go.ChangeAt Go.RowKit
attribute [local go_sem] Oper.semAt_some

theorem ins_len : ∀ a : List Atm, (insD a).length = a.length + 1
  | [] => rfl
  | .k :: _ => rfl
  | .d :: _ => rfl
  | .p x :: a => by simp only [insD, List.length_cons]; rw [ins_len a]
theorem nf_len : ∀ a : List Atm, (nfA a).length = a.length
  | [] => rfl
  | .k :: a => by simp only [nfA, List.length_cons]; rw [nf_len a]
  | .p x :: a => by simp only [nfA, List.length_cons]; rw [nf_len a]
  | .d :: a => by simp only [nfA, List.length_cons]; rw [ins_len, nf_len a]
theorem pln_pos {o : Dop} (h : Pln o) : 1 ≤ (opA o).length := by
  rcases h with ⟨h1 | h1, h2, _⟩ | ⟨h1, _, h3⟩
  · simp [opA, h1]; omega
  · simp [opA, h1]; omega
  · simp [opA, h1]
    cases ht : o.t with
    | nil => exact absurd ht h3
    | cons a r => simp
theorem can_len : ∀ {d : List Dop}, (∀ o ∈ d, Pln o) → d.length ≤ (dA d).length
  | [], _ => Nat.le_refl _
  | o :: r, h => by
    have := can_len (d := r) (fun x hx => h x (List.mem_cons_of_mem _ hx))
    have := pln_pos (h o List.mem_cons_self)
    rw [dA_cons, List.length_append, List.length_cons]
    omega
theorem dA_len : ∀ {d : List Dop}, (∀ o ∈ d, o.k = 1 ∨ o.k = 2 ∨ o.k = 3) → (dA d).length ≤ frD d + toD d
  | [], _ => Nat.le_refl _
  | o :: r, h => by
    have ih := dA_len (d := r) (fun x hx => h x (List.mem_cons_of_mem _ hx))
    have e : (opA o).length ≤ frN o + toN o := by
      unfold opA frN toN
      rcases h o List.mem_cons_self with h1 | h1 | h1 <;> simp [h1]
    have e1 : frD (o :: r) = frN o + frD r := by simp [frD]
    have e2 : toD (o :: r) = toN o + toD r := by simp [toD]
    rw [dA_cons, List.length_append, e1, e2]
    omega
/-- what a builder holds is no more than what was handed on -/
theorem feed_bound (u : List Atm) : (feedA b0 u).ops.length + (feedA b0 u).kept + (feedA b0 u).tx.length + (feedA b0 u).dr ≤ u.length := by
  have hw := wb_feed u wb0
  have h1 := congrArg List.length (feed_atoms u wb0)
  rw [nf_len, nf_len, fin_atoms] at h1
  have h2 := can_len hw.c.p
  simp only [List.length_append, List.length_replicate, List.length_map, show dA b0.fin = [] from rfl, List.length_nil, Nat.zero_add] at h1
  omega
theorem ts_len {ts : List (List Int)} (h : ∀ x ∈ ts, x ≠ []) : ts.length ≤ ts.flatten.length := by
  induction ts with
  | nil => simp
  | cons a r ih =>
    have := ih (fun x hx => h x (List.mem_cons_of_mem _ hx))
    have : 1 ≤ a.length := by cases a with | nil => exact absurd rfl (h [] (by simp)) | cons b q => simp
    simp only [List.length_cons, List.flatten_cons, List.length_append]
    omega
theorem dA_take (d : List Dop) (k : Nat) : (dA (d.take k)).length ≤ (dA d).length := by
  have : dA d = dA (d.take k) ++ dA (d.drop k) := by rw [← dA_app, List.take_append_drop]
  rw [this, List.length_append]
  omega
theorem op_keep {b : Bld} {o : Dop} (h : o.k = 1) : b.op o = b.keep o.n.toNat := by unfold Bld.op; rw [if_pos h]
theorem op_put {b : Bld} {o : Dop} (h : o.k = 2) : b.op o = b.put o.t := by unfold Bld.op; rw [if_neg (by omega), if_pos h]
theorem op_drop {b : Bld} {o : Dop} (h : o.k = 3) : b.op o = b.drop o.n.toNat := by unfold Bld.op; rw [if_neg (by omega), if_neg (by omega)]
theorem own_lower {X : World} {B B' s n : Nat} {t : TypeId} {v : Value} {xs : List Value} (h : X.ownsRow B t s v n xs) (hB : B' ≤ B) : X.ownsRow B' t s v n xs := by
  refine ⟨h.1, ?_⟩
  rcases h.2 with h2 | ⟨g, cap, cur, e, h3, h4⟩
  · exact Or.inl h2
  · exact Or.inr ⟨g, cap, cur, e, Nat.le_trans hB h3, h4⟩
/-- what Canon answers -/
def canD (d : List Dop) : List Dop × Int := if d.all knB then (if lonB d then ([], 5) else (canA (dA d), 0)) else ([], 130)
theorem row_nilD (w : World) (B : Nat) : w.ownsRow B 50 3 (.slice none 0 0) ([] : List Dop).length (opsV []) := World.ownsRow_nil _ _ _ _
end Go.Proofs.Ytfllomlighlejaa
end

section
namespace Go.Proofs.Ytfllomlighlejaa
open Go.ChangeShapes Go.WideShapes Go.ChangeAt Go.RowKit
attribute [local go_sem] Oper.semAt_some

/-- append(Delta{}, d...) -/
theorem copy_op (w : World) (a0 : Option Addr) (cap : Nat) (d : List Dop) (ty : TypeId) (h : IsO w a0 d) (hz : d = [] ∨ ∃ a, a0 = some a) (hb : d.length * 32 ≤ 140737488355328) :
    ∃ v' w', (Builtin.append_ #[24, 24] ty #[.slice (some ⟨w.heap.size, 0, none⟩) 0 0, .slice a0 d.length cap]).run Try.prog (w.alloc (.cells #[] 50)) = .ok v' w' ∧
      w'.ownsRow w.heap.size 50 3 v' d.length (opsV d) ∧ Below w.heap.size w w' := by
  obtain ⟨i, hi, hzz, hs, hby⟩ := info_op
  have hb0 : Below w.heap.size w (w.alloc (.cells #[] 50)) := (Below.refl _ _).alloc (Nat.le_refl _) _
  have hown : (w.alloc (.cells #[] 50)).ownsRow w.heap.size 50 3 (.slice (some ⟨w.heap.size, 0, none⟩) 0 0) 0 [] := World.ownsRow_made w #[] 0 (Nat.le_refl _) (Nat.zero_le _) rfl
  have h' := h.below hb0 (Nat.le_refl _)
  by_cases hd : d = []
  · subst hd
    refine ⟨.slice (some ⟨w.heap.size, 0, none⟩) 0 0, _, ?_, hown, hb0⟩
    have hsrc : Src Try.prog i.size 24 (.slice a0 0 cap) 0 [] (w.alloc (.cells #[] 50)) := by
      cases a0 with
      | none => exact Src.ofNil _ Try.underlying24 cap
      | some x => exact Src.ofSlice _ Try.underlying24 x 0 cap [] (by simp) (fun j u h => by simp at h) (fun u h => by cases h)
    exact run_append_room_src (P := Try.prog) (w.alloc (.cells #[] 50)) 24 24 ty 50 i Try.underlying24 hi w.heap.size 0 0 0 (.slice a0 0 cap) 0 [] hsrc (Nat.le_refl _) (fun j hj => absurd hj (Nat.not_lt_zero _)) (fun j hj => absurd hj (Nat.not_lt_zero _))
  · rcases h' with h' | ⟨g, off, rfl, hg, hL⟩
    · exact absurd h' hd
    obtain ⟨v', w', hr, ho, hgr, _⟩ := run_append_own (P := Try.prog) (w.alloc (.cells #[] 50)) w.heap.size 24 ty 50 i (.agg #[.int .i64 0, .int .i64 0, .string ⟨#[]⟩]) 3 32 Try.underlying24 hi hzz hs hby rfl (by decide)
      _ 0 [] hown ⟨g, off, none⟩ d.length cap (opsV d) (opsV_len d)
      (fun j u hj => by
        have hjl : j < (opsV d).length := (List.getElem?_eq_some_iff.1 hj).1
        rw [opsV_len] at hjl
        have hk : j / 3 < d.length := by omega
        have e := opsV_get d (j / 3) (j % 3) hk (by omega)
        rw [show j / 3 * 3 + j % 3 = j by omega, hj] at e
        obtain ⟨c0, c1, c2⟩ := hL (j / 3) hk
        rw [Addr.add_lit]
        have hm : j % 3 = 0 ∨ j % 3 = 1 ∨ j % 3 = 2 := by omega
        rcases hm with hm | hm | hm
        · rw [hm] at e; rw [show off + j = off + j / 3 * 3 by omega]; exact c0.trans e.symm
        · rw [hm] at e; rw [show off + j = off + j / 3 * 3 + 1 by omega]; exact c1.trans e.symm
        · rw [hm] at e; rw [show off + j = off + j / 3 * 3 + 2 by omega]; exact c2.trans e.symm)
      (fun u hu => by obtain ⟨x, _, hx⟩ := List.mem_flatMap.1 hu; exact opL_cell hx) (by unfold maxLen; omega) (by omega) (by simp)
    refine ⟨v', w', hr, ?_, hb0.grown hgr (by simp) (fun k e => by cases e; exact Nat.le_refl _)⟩
    rw [Nat.zero_add, List.nil_append] at ho
    exact ho
theorem getD_memE {d : List Dop} {k : Nat} (hk : k < d.length) : d.getD k opZ ∈ d := by
  rw [List.getD_eq_getElem?_getD, List.getElem?_eq_getElem hk]; exact List.getElem_mem hk
def TbD (o : Dop) : Prop := ∀ x ∈ o.t, 0 ≤ x ∧ x ≤ 255
instance decDop : DecidableEq Dop := fun a b => decidable_of_iff (a.k = b.k ∧ a.n = b.n ∧ a.t = b.t) (by cases a; cases b; simp)
theorem op_neq {x y : Dop} (hx : TbD x) (hy : TbD y) : x = y ∨ (x ≠ y ∧ (¬ x.k = y.k ∨ (x.k = y.k ∧ ¬ x.n = y.n) ∨ (x.k = y.k ∧ x.n = y.n ∧ ¬ (strOfNums x.t).toList = (strOfNums y.t).toList))) := by
  have h := str_beq hx hy
  obtain ⟨a, b, c⟩ := x
  obtain ⟨a', b', c'⟩ := y
  dsimp only at h ⊢
  by_cases h1 : a = a'
  · by_cases h2 : b = b'
    · by_cases h3 : c = c'
      · left; rw [h1, h2, h3]
      · right
        refine ⟨by simp [h1, h2, h3], .inr (.inr ⟨h1, h2, fun e => ?_⟩)⟩
        rw [e, decide_eq_false h3] at h
        simp at h
    · right; exact ⟨by simp [h1, h2], .inr (.inl ⟨h1, h2⟩)⟩
  · right; exact ⟨by simp [h1], .inl h1⟩
theorem take_eqD {d e : List Dop} {k : Nat} (hd : k < d.length) (he : k < e.length) (h : d.take k = e.take k) (hx : d.getD k opZ = e.getD k opZ) : d.take (k + 1) = e.take (k + 1) := by
  rw [List.take_add_one, List.take_add_one, h, List.getElem?_eq_getElem hd, List.getElem?_eq_getElem he]
  rw [List.getD_eq_getElem?_getD, List.getElem?_eq_getElem hd, List.getD_eq_getElem?_getD, List.getElem?_eq_getElem he] at hx
  rw [show d[k] = e[k] from hx]
end Go.Proofs.Ytfllomlighlejaa
end
