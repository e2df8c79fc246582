/- Layer 13: Valid, Lens, Canon. · Layer 13: Canon. · Layer 13, the document's: Copy, Same. -/
import Derived.Test.YtdemagijhmbdcaaDo17
import Derived.Test.YtdemagijhmbdcaaDo19
import Derived.RegionTactic
import Derived.Test.YtdemagijhmbdcaaDo11
import Derived.Test.YtdemagijhmbdcaaDo04
import Derived.Deep.AppendSrc
import Derived.ChangeAlike

section
namespace Go.Proofs.Ytdemagijhmbdcaa
open Go.ChangeShapes Go.WideShapes Go.ChangeAt Go.RowKit
attribute [local go_sem] Oper.semAt_some

def lonB (d : List Dop) : Bool := decide (268435456 < frD d ∨ 268435456 < toD d)
theorem lon_sat (d : List Dop) : decide (268435456 < satD (frD d) ∨ 268435456 < satD (toD d)) = lonB d := by unfold lonB satD; rw [decide_eq_decide]; omega
def valB (d : List Dop) : Bool := d.all plB && (apL 7 d && !lonB d)
theorem plB_nn {d : List Dop} (h : d.all plB = true) : ∀ o ∈ d, NnD o := fun o ho hk => by
  have := List.all_eq_true.1 h o ho
  unfold plB at this
  rw [if_neg (by omega)] at this
  simp at this
  omega
set_option maxRecDepth 100000 in
set_option maxHeartbeats 2000000 in
theorem Valid_atD (a : Option Addr) (c : Nat) (d : List Dop) (w : World) (h : IsO w a d) (hl : d.length ≤ 4611686018427387904) :
    Calls Try.prog 16 #[.slice a d.length c] w fun y w' => y = .returned (.bool (valB d)) ∧ Below w.heap.size w w' := by
  have HP := hide (plain_at a c d w h hl)
  have HA := hide fun (X : World) (hx : Below w.heap.size w X) => apart_at a c d X (h.below hx (Nat.le_refl _)) hl
  have HM := hide fun (X : World) (hx : Below w.heap.size w X) (hp : d.all plB = true) => measure_at a c d X (h.below hx (Nat.le_refl _)) hl (plB_nn hp)
  have HL := hide fun (X : World) => long_at (satD (frD d)) (satD (toD d)) X (by have := satD_le (frD d); omega) (by have := satD_le (toD d); omega)
  rw [lon_sat] at HL
  have HV : Hid (valB d = (d.all plB && (apL 7 d && !lonB d))) := hide rfl
  clear h hl
  generalize valB d = V at *
  generalize satD (frD d) = F at *
  generalize satD (toD d) = T at *
  generalize lonB d = L at *
  generalize apL 7 d = A at *
  go_enter Try.func16, Try.ntmps16
  go_wp2_with fail
  refine (unhide HP).mono ?_
  rintro y w1 ⟨rfl, x1⟩
  dsimp only
  cases hp : d.all plB with
  | false =>
    have HV2 : Hid (V = false) := hide (by rw [unhide HV, hp]; rfl)
    clear HP HA HM HL HV hp
    go_wp2_with fail
    rw [unhide HV2]
    refine bodyPost_ret (results_tmp rfl _ _ _) rfl ⟨rfl, x1⟩
  | true =>
    have HPP := hide hp
    clear HP hp
    go_wp2_with fail
    refine (unhide HA w1 x1).mono ?_
    rintro y w2 ⟨rfl, x2⟩
    dsimp only
    have X2 := x1.trans (x2.mono x1.size)
    clear HA x1 x2
    cases A with
    | false =>
      have HV2 : Hid (V = false) := hide (by rw [unhide HV, unhide HPP]; rfl)
      clear HM HL HV HPP
      go_wp2_with fail
      rw [unhide HV2]
      refine bodyPost_ret (results_tmp rfl _ _ _) rfl ⟨rfl, X2⟩
    | true =>
      have HM2 := hide (unhide HM w2 X2 (unhide HPP))
      have HV2 : Hid (V = !L) := hide (by rw [unhide HV, unhide HPP]; rfl)
      have HX2 := hide X2
      clear HM HV HPP X2
      go_wp2_with fail
      refine (unhide HM2).mono ?_
      rintro y w3 ⟨rfl, x3⟩
      dsimp only
      have HX3 := hide ((unhide HX2).trans (x3.mono (unhide HX2).size))
      clear HM2 HX2 x3
      go_wp2_with fail
      refine (unhide HL w3).mono ?_
      rintro y w4 ⟨rfl, x4⟩
      dsimp only
      have HX4 := hide ((unhide HX3).trans (x4.mono (unhide HX3).size))
      clear HL HX3 x4
      cases L with
      | false =>
        go_wp2_with fail
        rw [unhide HV2]
        refine bodyPost_ret (results_tmp rfl _ _ _) rfl ⟨rfl, unhide HX4⟩
      | true =>
        go_wp2_with fail
        rw [unhide HV2]
        refine bodyPost_ret (results_tmp rfl _ _ _) rfl ⟨rfl, unhide HX4⟩
theorem valB_nn {d : List Dop} (h : valB d = true) : (∀ o ∈ d, NnD o) ∧ frD d ≤ 268435456 ∧ toD d ≤ 268435456 := by
  unfold valB lonB at h
  simp only [Bool.and_eq_true, Bool.not_eq_true', decide_eq_false_iff_not] at h
  exact ⟨plB_nn h.1, by omega, by omega⟩
def lensV (d : List Dop) : Value := if valB d then .tuple #[.int .i64 (frD d : Int), .int .i64 (toD d : Int), .int .i64 0] else .tuple #[.int .i64 0, .int .i64 0, .int .i64 130]
theorem results_tmp3 {P : Program} {fn : Func} {i j k : Nat} (h : fn.results = #[.tmp i, .tmp j, .tmp k]) (tmps : Array Value) (w : World) : (results fn tmps).run P w = .ok (.tuple #[tmps.getD i undef, tmps.getD j undef, tmps.getD k undef]) w := by
  simp [results, h, go_sem]
set_option maxRecDepth 100000 in
set_option maxHeartbeats 2000000 in
theorem Lens_at (a : Option Addr) (c : Nat) (d : List Dop) (w : World) (h : IsO w a d) (hl : d.length ≤ 4611686018427387904) :
    Calls Try.prog 17 #[.slice a d.length c] w fun y w' => y = .returned (lensV d) ∧ Below w.heap.size w w' := by
  have HA := hide (Valid_atD a c d w h hl)
  have HM := hide fun (X : World) (hx : Below w.heap.size w X) (hp : valB d = true) => measure_at a c d X (h.below hx (Nat.le_refl _)) hl (valB_nn hp).1
  unfold lensV
  clear h hl
  cases hv : valB d with
  | false =>
    rw [hv] at HA
    clear HM hv
    simp only [Bool.false_eq_true, if_false]
    go_enter Try.func17, Try.ntmps17
    go_wp2_with fail
    refine (unhide HA).mono ?_
    rintro y w1 ⟨rfl, x1⟩
    dsimp only
    clear HA
    go_wp2_with fail
    refine bodyPost_ret (results_tmp3 rfl _ _) rfl ⟨rfl, x1⟩
  | true =>
    have HS : Hid (satD (frD d) = frD d ∧ satD (toD d) = toD d) := hide (by have := (valB_nn hv).2; unfold satD; omega)
    have HM2 := hide fun (X : World) (hx : Below w.heap.size w X) => unhide HM X hx hv
    rw [(unhide HS).1, (unhide HS).2] at HM2
    rw [hv] at HA
    clear HM hv HS
    simp only [if_true]
    generalize frD d = F at *
    generalize toD d = T at *
    go_enter Try.func17, Try.ntmps17
    go_wp2_with fail
    refine (unhide HA).mono ?_
    rintro y w1 ⟨rfl, x1⟩
    dsimp only
    have HM3 := hide (unhide HM2 w1 x1)
    have HX1 := hide x1
    clear HA HM2 x1
    go_wp2_with fail
    refine (unhide HM3).mono ?_
    rintro y w2 ⟨rfl, x2⟩
    dsimp only
    have kZ := Cls.new w2 61 #[.int .i64 (F : Int), .int .i64 (T : Int)]
    have b0 := (Below.refl w2.heap.size w2).alloc (Nat.le_refl _) (.cells #[.int .i64 (F : Int), .int .i64 (T : Int)] 61)
    have X2 := (unhide HX1).trans (x2.mono (unhide HX1).size)
    have HX3 := hide (X2.trans (b0.mono X2.size))
    clear HM3 HX1 x2 b0 X2
    go_upto_region 4 with fail
    generalize w2.heap.size = gZ at *
    generalize w2.alloc (.cells #[.int .i64 (F : Int), .int .i64 (T : Int)] 61) = w3 at *
    obtain ⟨c0, c1, _, _⟩ := (show IsZ w3 gZ F T from kZ).cells
    clear kZ
    go_region
    go_wp2_with fail
    refine bodyPost_ret (results_tmp3 rfl _ _) rfl ⟨rfl, (unhide HX3).drew⟩

/-- texts of bytes, of a length that may be -/
def TxD (o : Dop) : Prop := o.t.length ≤ 140737488351232 ∧ ∀ x ∈ o.t, 0 ≤ x ∧ x ≤ 255
theorem kn_nn {d : List Dop} (h : d.all knB = true) : ∀ o ∈ d, NnD o := fun o ho hk => by
  have := List.all_eq_true.1 h o ho
  unfold knB at this
  simp at this
  omega
theorem kn_k {d : List Dop} (h : d.all knB = true) {o : Dop} (ho : o ∈ d) : o.k = 1 ∨ o.k = 2 ∨ o.k = 3 := by
  have := List.all_eq_true.1 h o ho
  unfold knB at this
  simp at this
  omega
theorem feedD_take (d : List Dop) {k : Nat} (hk : k < d.length) (b : Bld) : feedD b (d.take (k + 1)) = (feedD b (d.take k)).op (d.getD k opZ) := by
  unfold feedD
  rw [List.take_add_one, List.getElem?_eq_getElem hk, Option.toList_some, List.foldl_append]
  simp [List.getD_eq_getElem?_getD, List.getElem?_eq_getElem hk]
theorem fin_lenD (b : Bld) : b.fin.length ≤ b.ops.length + 3 := by
  unfold Bld.fin
  have := kO_len b.kept
  have := pO_len b.tx
  have := dO_len b.dr
  simp only [List.length_append]
  omega

end Go.Proofs.Ytdemagijhmbdcaa
end

section
namespace Go.Proofs.Ytdemagijhmbdcaa
open Go.ChangeShapes Go.WideShapes Go.ChangeAt Go.RowKit
attribute [local go_sem] Oper.semAt_some

theorem ins_len : ∀ a : List Atm, (insD a).length = a.length + 1
  | [] => rfl
  | .k :: _ => rfl
  | .d :: _ => rfl
  | .p x :: a => by simp only [insD, List.length_cons]; rw [ins_len a]
theorem nf_len : ∀ a : List Atm, (nfA a).length = a.length
  | [] => rfl
  | .k :: a => by simp only [nfA, List.length_cons]; rw [nf_len a]
  | .p x :: a => by simp only [nfA, List.length_cons]; rw [nf_len a]
  | .d :: a => by simp only [nfA, List.length_cons]; rw [ins_len, nf_len a]
theorem pln_pos {o : Dop} (h : Pln o) : 1 ≤ (opA o).length := by
  rcases h with ⟨h1 | h1, h2, _⟩ | ⟨h1, _, h3⟩
  · simp [opA, h1]; omega
  · simp [opA, h1]; omega
  · simp [opA, h1]
    cases ht : o.t with
    | nil => exact absurd ht h3
    | cons a r => simp
theorem can_len : ∀ {d : List Dop}, (∀ o ∈ d, Pln o) → d.length ≤ (dA d).length
  | [], _ => Nat.le_refl _
  | o :: r, h => by
    have := can_len (d := r) (fun x hx => h x (List.mem_cons_of_mem _ hx))
    have := pln_pos (h o List.mem_cons_self)
    rw [dA_cons, List.length_append, List.length_cons]
    omega
theorem dA_len : ∀ {d : List Dop}, (∀ o ∈ d, o.k = 1 ∨ o.k = 2 ∨ o.k = 3) → (dA d).length ≤ frD d + toD d
  | [], _ => Nat.le_refl _
  | o :: r, h => by
    have ih := dA_len (d := r) (fun x hx => h x (List.mem_cons_of_mem _ hx))
    have e : (opA o).length ≤ frN o + toN o := by
      unfold opA frN toN
      rcases h o List.mem_cons_self with h1 | h1 | h1 <;> simp [h1]
    have e1 : frD (o :: r) = frN o + frD r := by simp [frD]
    have e2 : toD (o :: r) = toN o + toD r := by simp [toD]
    rw [dA_cons, List.length_append, e1, e2]
    omega
/-- what a builder holds is no more than what was handed on -/
theorem feed_bound (u : List Atm) : (feedA b0 u).ops.length + (feedA b0 u).kept + (feedA b0 u).tx.length + (feedA b0 u).dr ≤ u.length := by
  have hw := wb_feed u wb0
  have h1 := congrArg List.length (feed_atoms u wb0)
  rw [nf_len, nf_len, fin_atoms] at h1
  have h2 := can_len hw.c.p
  simp only [List.length_append, List.length_replicate, List.length_map, show dA b0.fin = [] from rfl, List.length_nil, Nat.zero_add] at h1
  omega
theorem ts_len {ts : List (List Int)} (h : ∀ x ∈ ts, x ≠ []) : ts.length ≤ ts.flatten.length := by
  induction ts with
  | nil => simp
  | cons a r ih =>
    have := ih (fun x hx => h x (List.mem_cons_of_mem _ hx))
    have : 1 ≤ a.length := by cases a with | nil => exact absurd rfl (h [] (by simp)) | cons b q => simp
    simp only [List.length_cons, List.flatten_cons, List.length_append]
    omega
theorem bd_ok {X : World} {B g o : Nat} {r : Nat → Option Value} {u : List Atm} {ts : List (List Int)} (h : IsBd X B g o r (feedA b0 u) ts) (hu : u.length ≤ 1073741824) : BdOk (feedA b0 u) ts := by
  have h1 := feed_bound u
  have h2 := ts_len h.t.2
  rw [h.t.1] at h2
  exact ⟨by omega, by omega, by omega, by omega, by omega⟩
theorem dA_take (d : List Dop) (k : Nat) : (dA (d.take k)).length ≤ (dA d).length := by
  have : dA d = dA (d.take k) ++ dA (d.drop k) := by rw [← dA_app, List.take_append_drop]
  rw [this, List.length_append]
  omega
theorem op_keep {b : Bld} {o : Dop} (h : o.k = 1) : b.op o = b.keep o.n.toNat := by unfold Bld.op; rw [if_pos h]
theorem op_put {b : Bld} {o : Dop} (h : o.k = 2) : b.op o = b.put o.t := by unfold Bld.op; rw [if_neg (by omega), if_pos h]
theorem op_drop {b : Bld} {o : Dop} (h : o.k = 3) : b.op o = b.drop o.n.toNat := by unfold Bld.op; rw [if_neg (by omega), if_neg (by omega)]
/-- each of a builder, from nothing on -/
theorem each_bd (a : Option Addr) (c B g o : Nat) (r : Nat → Option Value) (d : List Dop) (X : World) (hd : ∀ Y, Below B X Y → IsO Y a d) (hX : IsBd X B g o r b0 []) (hB : B ≤ X.heap.size) (hl : d.length ≤ 4611686018427387904) (hk : ∀ q ∈ d, q.k = 1 ∨ q.k = 2 ∨ q.k = 3) (hn : ∀ q ∈ d, NnD q) (hz : frD d + toD d ≤ 1073741824) :
    Calls Try.prog 26 #[.slice a d.length c, .func (.func 37) #[.pointer (some ⟨g, o, none⟩)] #[], .func (.func 38) #[.pointer (some ⟨g, o, none⟩)] #[], .func (.func 39) #[.pointer (some ⟨g, o, none⟩)] #[]] X
      fun y X' => y = .returned (.tuple #[]) ∧ (∃ ts, IsBd X' B g o r (feedA b0 (dA d)) ts) ∧ Below B X X' := by
  have hb : ∀ k, (dA (d.take k)).length ≤ 1073741824 := fun k => by have := dA_take d k; have := dA_len hk; omega
  have := each_at a c B d X 37 38 39 (.pointer (some ⟨g, o, none⟩))
    (fun k Y => (∃ ts, IsBd Y B g o r (feedA b0 (dA (d.take k))) ts) ∧ Below B X Y)
    (enters_of Try.func37 (by kernel_rfl) rfl) (enters_of Try.func38 (by kernel_rfl) rfl) (enters_of Try.func39 (by kernel_rfl) rfl)
    hd (fun k Y hY => hY.2) (fun k Y q ⟨⟨ts, h1⟩, h2⟩ => ⟨⟨ts, h1.on ((Below.refl Y.heap.size Y).alloc (Nat.le_refl _) q) (Nat.le_refl _)⟩, h2.alloc (Nat.le_trans hB h2.size) q⟩) ⟨⟨[], hX⟩, Below.refl _ _⟩ hl
    (fun k Y hlt h1 ⟨⟨ts, hY⟩, hb2⟩ => by
      obtain ⟨m, hm⟩ : ∃ m : Nat, (d.getD k opZ).n = (m : Int) := ⟨(d.getD k opZ).n.toNat, by have := hn _ (getD_memD hlt) (.inl h1); omega⟩
      have hfr : m ≤ frD d + toD d := by
        have e1 := frD_take d hlt
        have e2 : frN (d.getD k opZ) = m := by unfold frN; rw [if_pos (.inl h1), hm]; simp
        have e3 : frD (d.take (k + 1)) ≤ frD d := by
          have : frD d = frD (d.take (k + 1)) + frD (d.drop (k + 1)) := by unfold frD; rw [← List.sum_append, ← List.map_append, List.take_append_drop]
          omega
        omega
      have e : feedA b0 (dA (d.take (k + 1))) = (feedA b0 (dA (d.take k))).keep m := by rw [← feedD_A, ← feedD_A, feedD_take d hlt, op_keep h1, hm]; simp
      rw [hm, e]
      exact (bkeep_at B g o r _ ts m Y hY (bd_ok hY (hb k)) (by omega) (Nat.le_trans hB hb2.size)).mono fun y Z ⟨q, ⟨ts', h3, _⟩, h4⟩ => ⟨q, ⟨ts', h3⟩, hb2.trans h4⟩)
    (fun k Y hlt h1 ⟨⟨ts, hY⟩, hb2⟩ => by
      have e : feedA b0 (dA (d.take (k + 1))) = (feedA b0 (dA (d.take k))).put (d.getD k opZ).t := by rw [← feedD_A, ← feedD_A, feedD_take d hlt, op_put h1]
      rw [e]
      exact (bput_at B g o r _ ts _ Y hY (bd_ok hY (hb k)).t (Nat.le_trans hB hb2.size)).mono fun y Z ⟨q, h3, h4⟩ => ⟨q, ⟨_, h3⟩, hb2.trans h4⟩)
    (fun k Y hlt h1 ⟨⟨ts, hY⟩, hb2⟩ => by
      obtain ⟨m, hm⟩ : ∃ m : Nat, (d.getD k opZ).n = (m : Int) := ⟨(d.getD k opZ).n.toNat, by have := hn _ (getD_memD hlt) (.inr h1); omega⟩
      have hfr : m ≤ frD d + toD d := by
        have e1 := frD_take d hlt
        have e2 : frN (d.getD k opZ) = m := by unfold frN; rw [if_pos (.inr h1), hm]; simp
        have e3 : frD (d.take (k + 1)) ≤ frD d := by
          have : frD d = frD (d.take (k + 1)) + frD (d.drop (k + 1)) := by unfold frD; rw [← List.sum_append, ← List.map_append, List.take_append_drop]
          omega
        omega
      have e : feedA b0 (dA (d.take (k + 1))) = (feedA b0 (dA (d.take k))).drop m := by rw [← feedD_A, ← feedD_A, feedD_take d hlt, op_drop h1, hm]; simp
      rw [hm, e]
      exact (bdrop_at B g o r _ ts m Y hY (by have := (bd_ok hY (hb k)).d; omega)).mono fun y Z ⟨q, h3, h4⟩ => ⟨q, ⟨ts, h3⟩, hb2.trans h4⟩)
    (fun k Y hlt h1 h2 h3 _ => by rcases hk _ (getD_memD hlt) with h | h | h <;> contradiction)
  rw [List.take_length] at this
  exact this
theorem own_lower {X : World} {B B' s n : Nat} {t : TypeId} {v : Value} {xs : List Value} (h : X.ownsRow B t s v n xs) (hB : B' ≤ B) : X.ownsRow B' t s v n xs := by
  refine ⟨h.1, ?_⟩
  rcases h.2 with h2 | ⟨g, cap, cur, e, h3, h4⟩
  · exact Or.inl h2
  · exact Or.inr ⟨g, cap, cur, e, Nat.le_trans hB h3, h4⟩
/-- what Canon answers -/
def canD (d : List Dop) : List Dop × Int := if d.all knB then (if lonB d then ([], 5) else (canA (dA d), 0)) else ([], 130)
theorem row_nilD (w : World) (B : Nat) : w.ownsRow B 34 3 (.slice none 0 0) ([] : List Dop).length (opsV []) := World.ownsRow_nil _ _ _ _
theorem bd_new (w : World) : IsBd (w.alloc (.cells #[.slice none 0 0, .int .i64 0, .slice none 0 0, .int .i64 0] 70)) w.heap.size w.heap.size 0 (fun _ => none) b0 [] := by
  refine ⟨⟨.slice none 0 0, .slice none 0 0, ⟨_, _, World.alloc_heap_new w _, .inl rfl, rfl, rfl, rfl, rfl, fun j hj => ?_⟩, World.ownsRow_nil _ _ _ _, World.ownsRow_nil _ _ _ _⟩, ⟨rfl, fun x hx => by simp at hx⟩, Nat.le_refl _, fun cs q e1 _ => by cases e1⟩
  exact Array.getElem?_eq_none (by simp; omega)
set_option maxRecDepth 100000 in
set_option maxHeartbeats 2000000 in
theorem Canon_at (a : Option Addr) (c : Nat) (d : List Dop) (w : World) (h : IsO w a d) (hl : d.length ≤ 4611686018427387904) :
    Calls Try.prog 13 #[.slice a d.length c] w fun y w' => ∃ v, y = .returned (.tuple #[v, .int .i64 (canD d).2]) ∧ w'.ownsRow w.heap.size 34 3 v (canD d).1.length (opsV (canD d).1) ∧ Below w.heap.size w w' := by
  have HK := hide (known_at a c d w h hl)
  have HO := hide h
  obtain ⟨L, E, hLE⟩ : ∃ L E, canD d = (L, E) := ⟨_, _, rfl⟩
  rw [hLE]
  dsimp only
  unfold canD at hLE
  cases hk : d.all knB with
  | false =>
    rw [hk] at HK hLE
    simp only [Bool.false_eq_true, if_false, Prod.mk.injEq] at hLE
    obtain ⟨rfl, rfl⟩ := hLE
    clear h hl hk HO
    go_enter Try.func13, Try.ntmps13
    go_wp2_with fail
    refine (unhide HK).mono ?_
    rintro y w1 ⟨rfl, x1⟩
    dsimp only
    clear HK
    go_wp2_with fail
    refine bodyPost_ret (results_tmp2 rfl _ _ _) rfl ⟨.slice none 0 0, rfl, row_nilD _ _, x1⟩
  | true =>
    rw [hk] at HK hLE
    simp only [if_true] at hLE
    have HLE := hide hLE
    clear hLE
    have HM := hide fun (X : World) (hx : Below w.heap.size w X) => measure_at a c d X (h.below hx (Nat.le_refl _)) hl (kn_nn hk)
    have HL := hide fun (X : World) => long_at (satD (frD d)) (satD (toD d)) X (by have := satD_le (frD d); omega) (by have := satD_le (toD d); omega)
    rw [lon_sat] at HL
    have HE : Hid (∀ X, Below w.heap.size w X → lonB d = false → Calls Try.prog 26 #[.slice a d.length c, .func (.func 37) #[.pointer (some ⟨X.heap.size, 0, none⟩)] #[], .func (.func 38) #[.pointer (some ⟨X.heap.size, 0, none⟩)] #[], .func (.func 39) #[.pointer (some ⟨X.heap.size, 0, none⟩)] #[]]
        (X.alloc (.cells #[.slice none 0 0, .int .i64 0, .slice none 0 0, .int .i64 0] 70))
        fun y X' => y = .returned (.tuple #[]) ∧ (∃ ts, IsBd X' X.heap.size X.heap.size 0 (fun _ => none) (feedA b0 (dA d)) ts ∧ BdOk (feedA b0 (dA d)) ts) ∧ Below X.heap.size X X') := hide fun X hx hlo => by
      have hz : frD d ≤ 268435456 ∧ toD d ≤ 268435456 := by unfold lonB at hlo; simp only [decide_eq_false_iff_not] at hlo; omega
      have ba : Below X.heap.size X (X.alloc (.cells #[.slice none 0 0, .int .i64 0, .slice none 0 0, .int .i64 0] 70)) := (Below.refl _ _).alloc (Nat.le_refl _) _
      refine (each_bd a c X.heap.size X.heap.size 0 (fun _ => none) d _ (fun Y hY => (h.below hx (Nat.le_refl _)).below (ba.trans hY) (Nat.le_refl _)) (bd_new X) ba.size hl (fun q hq => kn_k hk hq) (kn_nn hk) (by omega)).mono fun y Y ⟨e, ⟨ts, h1⟩, h2⟩ => ⟨e, ⟨ts, h1, bd_ok h1 ?_⟩, ba.trans h2⟩
      have := dA_len fun q hq => kn_k hk hq
      omega
    clear h hl hk HO
    generalize satD (frD d) = F at *
    generalize satD (toD d) = T at *
    go_enter Try.func13, Try.ntmps13
    go_wp2_with fail
    refine (unhide HK).mono ?_
    rintro y w1 ⟨rfl, x1⟩
    dsimp only
    have HM1 := hide (unhide HM w1 x1)
    have HX1 := hide x1
    clear HK HM x1
    go_wp2_with fail
    refine (unhide HM1).mono ?_
    rintro y w2 ⟨rfl, x2⟩
    dsimp only
    have HX2 := hide ((unhide HX1).trans (x2.mono (unhide HX1).size))
    clear HM1 HX1 x2
    go_wp2_with fail
    refine (unhide HL w2).mono ?_
    rintro y w3 ⟨rfl, x3⟩
    dsimp only
    have HX3 := hide ((unhide HX2).trans (x3.mono (unhide HX2).size))
    clear HL HX2 x3
    cases hlo : lonB d with
    | true =>
      have hLE := unhide HLE
      rw [hlo] at hLE
      simp only [if_true, Prod.mk.injEq] at hLE
      obtain ⟨rfl, rfl⟩ := hLE
      clear HE HLE hlo
      go_wp2_with fail
      refine bodyPost_ret (results_tmp2 rfl _ _ _) rfl ⟨.slice none 0 0, rfl, row_nilD _ _, unhide HX3⟩
    | false =>
      have HE3 := hide (unhide HE w3 (unhide HX3) hlo)
      have HCA : Hid (canA (dA d) = (feedA b0 (dA d)).fin) := hide rfl
      have hLE := unhide HLE
      rw [hlo] at hLE
      simp only [Bool.false_eq_true, if_false, Prod.mk.injEq] at hLE
      obtain ⟨hL, rfl⟩ := hLE
      rw [hL] at HCA
      clear HE HLE hlo hL
      go_upto_region 6 with fail
      generalize w3.alloc (.cells #[.slice none 0 0, .int .i64 0, .slice none 0 0, .int .i64 0] 70) = v3 at *
      generalize hg : w3.heap.size = g at HE3 ⊢
      have HG : Hid (w.heap.size ≤ g) := hide (by rw [← hg]; exact (unhide HX3).size)
      have HXg : Hid (∀ Y, Below g w3 Y → Below w.heap.size w Y) := hide fun Y hY => (unhide HX3).trans (hY.mono (unhide HG))
      clear hg
      go_wp2_with fail
      refine (unhide HE3).mono ?_
      rintro y w4 ⟨rfl, ⟨ts, hI, hok⟩, x4⟩
      dsimp only
      have HD := hide (bdelta_at g g 0 (fun _ => none) (feedA b0 (dA d)) ts w4 hI hok (Nat.le_of_lt (by obtain ⟨_, _, h1, _⟩ := hI.c; exact h1.lt)))
      rw [← unhide HCA] at HD
      have HX4 := hide x4
      clear hI hok x4 HE3
      go_wp2_with fail
      refine (unhide HD).mono ?_
      rintro y w5 ⟨v, rfl, ho, x5⟩
      dsimp only
      have HO5 : Hid (w5.ownsRow w.heap.size 34 3 v L.length (opsV L)) := hide (own_lower ho (unhide HG))
      have HX5 := hide (unhide HXg w5 ((unhide HX4).trans x5))
      clear HD ho x5
      go_wp2_with fail
      refine bodyPost_ret (results_tmp2 rfl _ _ _) rfl ⟨v, rfl, unhide HO5, unhide HX5⟩

end Go.Proofs.Ytdemagijhmbdcaa
end

section
namespace Go.Proofs.Ytdemagijhmbdcaa
open Go.ChangeShapes Go.WideShapes Go.ChangeAt Go.RowKit
attribute [local go_sem] Oper.semAt_some

/-- append(Delta{}, d...) -/
theorem copy_op (w : World) (a0 : Option Addr) (cap : Nat) (d : List Dop) (ty : TypeId) (h : IsO w a0 d) (hz : d = [] ∨ ∃ a, a0 = some a) (hb : d.length * 32 ≤ 140737488355328) :
    ∃ v' w', (Builtin.append_ #[24, 24] ty #[.slice (some ⟨w.heap.size, 0, none⟩) 0 0, .slice a0 d.length cap]).run Try.prog (w.alloc (.cells #[] 34)) = .ok v' w' ∧
      w'.ownsRow w.heap.size 34 3 v' d.length (opsV d) ∧ Below w.heap.size w w' := by
  obtain ⟨i, hi, hzz, hs, hby⟩ := info_op
  have hb0 : Below w.heap.size w (w.alloc (.cells #[] 34)) := (Below.refl _ _).alloc (Nat.le_refl _) _
  have hown : (w.alloc (.cells #[] 34)).ownsRow w.heap.size 34 3 (.slice (some ⟨w.heap.size, 0, none⟩) 0 0) 0 [] := World.ownsRow_made w #[] 0 (Nat.le_refl _) (Nat.zero_le _) rfl
  have h' := h.below hb0 (Nat.le_refl _)
  by_cases hd : d = []
  · subst hd
    refine ⟨.slice (some ⟨w.heap.size, 0, none⟩) 0 0, _, ?_, hown, hb0⟩
    have hsrc : Src Try.prog i.size 24 (.slice a0 0 cap) 0 [] (w.alloc (.cells #[] 34)) := by
      cases a0 with
      | none => exact Src.ofNil _ Try.underlying24 cap
      | some x => exact Src.ofSlice _ Try.underlying24 x 0 cap [] (by simp) (fun j u h => by simp at h) (fun u h => by cases h)
    exact run_append_room_src (P := Try.prog) (w.alloc (.cells #[] 34)) 24 24 ty 34 i Try.underlying24 hi w.heap.size 0 0 0 (.slice a0 0 cap) 0 [] hsrc (Nat.le_refl _) (fun j hj => absurd hj (Nat.not_lt_zero _)) (fun j hj => absurd hj (Nat.not_lt_zero _))
  · rcases h' with h' | ⟨g, off, rfl, hg, hL⟩
    · exact absurd h' hd
    obtain ⟨v', w', hr, ho, hgr, _⟩ := run_append_own (P := Try.prog) (w.alloc (.cells #[] 34)) w.heap.size 24 ty 34 i (.agg #[.int .i64 0, .int .i64 0, .string ⟨#[]⟩]) 3 32 Try.underlying24 hi hzz hs hby rfl (by decide)
      _ 0 [] hown ⟨g, off, none⟩ d.length cap (opsV d) (opsV_len d)
      (fun j u hj => by
        have hjl : j < (opsV d).length := (List.getElem?_eq_some_iff.1 hj).1
        rw [opsV_len] at hjl
        have hk : j / 3 < d.length := by omega
        have e := opsV_get d (j / 3) (j % 3) hk (by omega)
        rw [show j / 3 * 3 + j % 3 = j by omega, hj] at e
        obtain ⟨c0, c1, c2⟩ := hL (j / 3) hk
        rw [Addr.add_lit]
        have hm : j % 3 = 0 ∨ j % 3 = 1 ∨ j % 3 = 2 := by omega
        rcases hm with hm | hm | hm
        · rw [hm] at e; rw [show off + j = off + j / 3 * 3 by omega]; exact c0.trans e.symm
        · rw [hm] at e; rw [show off + j = off + j / 3 * 3 + 1 by omega]; exact c1.trans e.symm
        · rw [hm] at e; rw [show off + j = off + j / 3 * 3 + 2 by omega]; exact c2.trans e.symm)
      (fun u hu => by obtain ⟨x, _, hx⟩ := List.mem_flatMap.1 hu; exact opL_cell hx) (by unfold maxLen; omega) (by omega) (by simp)
    refine ⟨v', w', hr, ?_, hb0.grown hgr (by simp) (fun k e => by cases e; exact Nat.le_refl _)⟩
    rw [Nat.zero_add, List.nil_append] at ho
    exact ho
set_option maxRecDepth 100000 in
theorem RCopy_at (a : Option Addr) (c : Nat) (d : List Dop) (w : World) (h : IsO w a d) (hz : d = [] ∨ ∃ q, a = some q) (hb : d.length * 32 ≤ 140737488355328) :
    Calls Try.prog 23 #[.slice a d.length c] w fun y w' => ∃ v, y = .returned v ∧ w'.ownsRow w.heap.size 34 3 v d.length (opsV d) ∧ Below w.heap.size w w' := by
  obtain ⟨v', w', hr, ho, hbb⟩ := copy_op w a c d 24 h hz hb
  have R2 := hide hr
  have HO := hide ho
  have HB := hide hbb
  clear hr ho hbb h hz hb
  go_enter Try.func23, Try.ntmps23
  go_wp2_with (at_builtin; refine wpList_append_known rfl _ _ 24 24 rfl _ _ rfl rfl _ _ (unhide R2) ?_; clear R2)
  refine bodyPost_ret (results_tmp rfl _ _ _) rfl ⟨v', rfl, unhide HO, unhide HB⟩
set_option maxRecDepth 100000 in
theorem own13_at (a : Option Addr) (c : Nat) (d : List Dop) (w : World) (h : IsO w a d) (hz : d = [] ∨ ∃ q, a = some q) (hb : d.length * 32 ≤ 140737488355328) :
    Calls Try.prog 9 #[.slice a d.length c] w fun y w' => ∃ v, y = .returned v ∧ w'.ownsRow w.heap.size 34 3 v d.length (opsV d) ∧ Below w.heap.size w w' := by
  have HC := hide (RCopy_at a c d w h hz hb)
  clear h hz hb
  go_enter Try.func9, Try.ntmps9
  go_wp2_with fail
  refine (unhide HC).mono ?_
  rintro y w1 ⟨v, rfl, ho, x1⟩
  dsimp only
  have HO := hide ho
  clear HC ho
  go_wp2_with fail
  refine bodyPost_ret (results_tmp rfl _ _ _) rfl ⟨v, rfl, unhide HO, x1⟩
theorem getD_memE {d : List Dop} {k : Nat} (hk : k < d.length) : d.getD k opZ ∈ d := by
  rw [List.getD_eq_getElem?_getD, List.getElem?_eq_getElem hk]; exact List.getElem_mem hk
def TbD (o : Dop) : Prop := ∀ x ∈ o.t, 0 ≤ x ∧ x ≤ 255
instance decDop : DecidableEq Dop := fun a b => decidable_of_iff (a.k = b.k ∧ a.n = b.n ∧ a.t = b.t) (by cases a; cases b; simp)
theorem op_neq {x y : Dop} (hx : TbD x) (hy : TbD y) : x = y ∨ (x ≠ y ∧ (¬ x.k = y.k ∨ (x.k = y.k ∧ ¬ x.n = y.n) ∨ (x.k = y.k ∧ x.n = y.n ∧ ¬ (strOfNums x.t).toList = (strOfNums y.t).toList))) := by
  have h := str_beq hx hy
  obtain ⟨a, b, c⟩ := x
  obtain ⟨a', b', c'⟩ := y
  dsimp only at h ⊢
  by_cases h1 : a = a'
  · by_cases h2 : b = b'
    · by_cases h3 : c = c'
      · left; rw [h1, h2, h3]
      · right
        refine ⟨by simp [h1, h2, h3], .inr (.inr ⟨h1, h2, fun e => ?_⟩)⟩
        rw [e, decide_eq_false h3] at h
        simp at h
    · right; exact ⟨by simp [h1, h2], .inr (.inl ⟨h1, h2⟩)⟩
  · right; exact ⟨by simp [h1], .inl h1⟩
theorem take_eqD {d e : List Dop} {k : Nat} (hd : k < d.length) (he : k < e.length) (h : d.take k = e.take k) (hx : d.getD k opZ = e.getD k opZ) : d.take (k + 1) = e.take (k + 1) := by
  rw [List.take_add_one, List.take_add_one, h, List.getElem?_eq_getElem hd, List.getElem?_eq_getElem he]
  rw [List.getD_eq_getElem?_getD, List.getElem?_eq_getElem hd, List.getD_eq_getElem?_getD, List.getElem?_eq_getElem he] at hx
  rw [show d[k] = e[k] from hx]
set_option maxRecDepth 100000 in
set_option maxHeartbeats 2000000 in
theorem RSame_at (a : Option Addr) (c : Nat) (d : List Dop) (a' : Option Addr) (c' : Nat) (e : List Dop) (w : World) (h : IsO w a d) (h' : IsO w a' e) (hl : d.length ≤ 4611686018427387904) (_hl' : e.length ≤ 4611686018427387904) (hb : ∀ o ∈ d, TbD o) (hb' : ∀ o ∈ e, TbD o) :
    Calls Try.prog 50 #[.slice a d.length c, .slice a' e.length c'] w fun y w' => y = .returned (.bool (decide (d = e))) ∧ Below w.heap.size w w' := by
  have HO := hide fun (X : World) (hx : Below w.heap.size w X) => h.below hx (Nat.le_refl _)
  have HO' := hide fun (X : World) (hx : Below w.heap.size w X) => h'.below hx (Nat.le_refl _)
  by_cases hlen : d.length = e.length
  case neg =>
    have HV : Hid (decide (d = e) = false) := hide (decide_eq_false fun he => hlen (by rw [he]))
    have t1 : ((d.length : Int) != (e.length : Int)) = true := by simp; omega
    have t2 : ¬ d.length = e.length := hlen
    have t3 : (d.length == e.length) = false := by simpa using hlen
    clear h h' hb hb' hlen HO HO'
    rw [unhide HV]
    go_enter Try.func50, Try.ntmps50
    go_wp2_with fail
    refine bodyPost_ret (results_tmp rfl _ _ _) rfl ⟨rfl, Below.refl _ _⟩
  obtain ⟨V, hV⟩ : ∃ V, V = decide (d = e) := ⟨_, rfl⟩
  rw [← hV]
  have HV := hide hV
  have HL := hide hlen
  have HBB := hide (And.intro hb hb')
  obtain ⟨N, hN⟩ : ∃ N, N = d.length := ⟨_, rfl⟩
  have hN' : N = e.length := by rw [hN, hlen]
  have HN := hide (And.intro hN hN')
  rw [← hN, ← hN']
  have hNl : N ≤ 4611686018427387904 := by omega
  clear h h' hb hb' hlen hV hN hN' hl
  go_enter Try.func50, Try.ntmps50
  go_wp2_with fail
  go_loopw [5] (fun v5 wx => (∃ k : Nat, v5 = .int .i64 (k : Int) ∧ k ≤ N ∧ Hid (d.take k = e.take k)) ∧ Hid (Below w.heap.size w wx)) (fun v5 _ => N - (intOf v5).toNat)
  case atStart => exact ⟨⟨0, rfl, Nat.zero_le _, hide rfl⟩, hide (Below.refl _ _)⟩
  case round =>
    obtain ⟨⟨k, rfl, hk, HK⟩, HB⟩ := hrel
    by_cases hlt : k < N
    · have t1 : decide ((k : Int) < (N : Int)) = true := decide_eq_true (by omega)
      have hd1 : k < d.length := by rw [← (unhide HN).1]; exact hlt
      have he1 : k < e.length := by rw [← (unhide HN).2]; exact hlt
      obtain ⟨g, off, rfl, hg, c0, c1, c2⟩ := (unhide HO wr (unhide HB)).three hd1
      obtain ⟨g', off', rfl, hg', e0, e1, e2⟩ := (unhide HO' wr (unhide HB)).three he1
      have HQ := hide (op_neq ((unhide HBB).1 _ (getD_memE hd1)) ((unhide HBB).2 _ (getD_memE he1)))
      have HTK := hide (take_eqD hd1 he1 (unhide HK))
      have HNE : Hid (d.getD k opZ ≠ e.getD k opZ → d ≠ e) := hide fun h1 h2 => h1 (by rw [h2])
      generalize d.getD k opZ = x at *
      generalize e.getD k opZ = y at *
      obtain ⟨xk, xn, xt⟩ := x
      obtain ⟨yk, yn, yt⟩ := y
      dsimp only at c0 c1 c2 e0 e1 e2 HQ
      generalize hst : strOfNums xt = st at *
      generalize hsu : strOfNums yt = su at *
      have HST := hide hst
      have HSU := hide hsu
      clear hst hsu
      clear hd1 he1 hg hg' HK
      have HB1 := hide (unhide HB).drew
      clear HB
      rcases unhide HQ with hxy | ⟨hxy, hq⟩
      · have HK2 := hide (unhide HTK hxy)
        cases hxy
        have hst : st = su := by rw [← unhide HST, ← unhide HSU]
        subst hst
        clear HTK HNE HQ HST HSU
        go_upto_region 6 with fail
        go_region
        go_wp2_with fail
        go_roundw
        case rel => exact ⟨⟨k + 1, by go_num, hlt, HK2⟩, HB1⟩
        case measure => simp [intOf]; omega
      · have HV2 : Hid (V = false) := hide (by rw [unhide HV]; exact decide_eq_false (unhide HNE hxy))
        clear HTK HNE HQ hxy HST HSU
        rcases hq with hq | ⟨rfl, hq⟩ | ⟨rfl, rfl, hq⟩
        all_goals
          go_upto_region 6 with fail
          go_region
          go_wp2_with fail
          rw [unhide HV2]
          refine bodyPost_ret (results_tmp rfl _ _ _) rfl ⟨rfl, unhide HB1⟩
    · obtain rfl : k = N := by omega
      have t1 : decide ((k : Int) < (k : Int)) = false := decide_eq_false (by omega)
      have HV2 : Hid (V = true) := hide (by
        rw [unhide HV]
        refine decide_eq_true ?_
        have := unhide HK
        rw [(unhide HN).1, List.take_length, ← (unhide HN).1, (unhide HN).2, List.take_length] at this
        exact this)
      clear HK hk
      go_wp2_with fail
      rw [unhide HV2]
      refine bodyPost_ret (results_tmp rfl _ _ _) rfl ⟨rfl, unhide HB⟩

end Go.Proofs.Ytdemagijhmbdcaa
end
