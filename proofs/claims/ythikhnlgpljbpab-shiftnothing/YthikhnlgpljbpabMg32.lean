/- Layer 14: ShiftNothing's walk (written by wip/tools/sfv.py). · Layer 13: arguments: bytes and a list of operations that came in, of whatever size. · A list of operations that came in: its room. -/
import Derived.Test.YthikhnlgpljbpabMg31
import Derived.Test.YthikhnlgpljbpabRows
import Derived.Test.YthikhnlgpljbpabMg23
import Derived.SizedLaws
import Derived.LaidLaws
import Derived.Deep.DeepHandedRow
import Derived.Deep.Slices
import Derived.Deep.SlicePairs
import Derived.OpenShut

section
namespace Go.Proofs.Ythikhnlgpljbpab
open Go.ChangeShapes Go.WideShapes Go.ChangeAt Go.RowKit
attribute [local go_sem] Oper.semAt_some

/-- what keeps n bytes -/
def smD (n : Nat) : List Dop := if n = 0 then [] else [⟨1, (n : Int), []⟩]
theorem smD_A (n : Nat) : dA (smD n) = List.replicate n .k := by
  unfold smD
  split
  · rename_i h; rw [h]; rfl
  · simp [dA, opA]
theorem smD_can (n : Nat) : Can (smD n) := by
  unfold smD
  split
  · exact ⟨fun o ho => by simp at ho, trivial⟩
  · rename_i h
    refine ⟨fun o ho => ?_, trivial⟩
    obtain rfl : o = ⟨1, (n : Int), []⟩ := by simpa using ho
    exact pln_k h
theorem smD_sz (n : Nat) : frD (smD n) = n ∧ toD (smD n) = n := by
  have h := frA_dA (can_kinds (smD_can n))
  rw [smD_A, (fr_rep_k n).1, (fr_rep_k n).2] at h
  exact ⟨h.1.symm, h.2.symm⟩
theorem smD_val {n : Nat} (h : n ≤ 268435456) : valB (smD n) = true := can_val (smD_can n) (by rw [(smD_sz n).1]; exact h) (by rw [(smD_sz n).2]; exact h)
theorem smD_len (n : Nat) : (smD n).length ≤ 1 := by unfold smD; split <;> simp
theorem smD_tx (n : Nat) : ∀ o ∈ smD n, o.t = [] := fun o ho => by
  unfold smD at ho
  split at ho
  · simp at ho
  · obtain rfl : o = ⟨1, (n : Int), []⟩ := by simpa using ho
    rfl
theorem no_left {d : List Dop} {f : Bool} (hv : valB d = true) : ovE (smD (frD d)) d f = 0 ∧ ovD (smD (frD d)) d f = d := by
  have hb := (valB_nn hv).2
  have vs := smD_val hb.1
  have k := frA_dA (valB_k hv)
  have e : ovA f (dA (smD (frD d))) (dA d) = dA d := by rw [smD_A, ← k.1]; exact ov_id f (dA d)
  have hE : ovE (smD (frD d)) d f = 0 := by
    unfold ovE
    rw [vs, hv, e, k.2, (smD_sz (frD d)).1]
    simp
    omega
  exact ⟨hE, by unfold ovD; rw [if_pos hE, e, canA_id (val_Can hv)]⟩
theorem no_right {d : List Dop} {f : Bool} (hv : valB d = true) : ovE d (smD (frD d)) f = 0 ∧ ovD d (smD (frD d)) f = smD (toD d) := by
  have hb := (valB_nn hv).2
  have vs := smD_val hb.1
  have k := frA_dA (valB_k hv)
  have e : ovA f (dA d) (dA (smD (frD d))) = dA (smD (toD d)) := by rw [smD_A, smD_A, ← k.1, ov_all, k.2]
  have hE : ovE d (smD (frD d)) f = 0 := by
    unfold ovE
    rw [vs, hv, e, smD_A, (fr_rep_k _).2, (smD_sz (frD d)).1]
    simp
    omega
  exact ⟨hE, by unfold ovD; rw [if_pos hE, e, canA_id (smD_can _)]⟩
set_option maxRecDepth 100000 in
theorem same14_at (n : Nat) (w : World) : Calls Try.prog 10 #[.int .i64 (n : Int)] w fun y w' => ∃ a c, y = .returned (.slice a (smD n).length c) ∧ (IsO w' a (smD n) ∧ (smD n).length ≤ c) ∧ Below w.heap.size w w' := by
  by_cases h : n = 0
  · subst h
    rw [show smD 0 = [] from rfl]
    go_enter Try.func10, Try.ntmps10
    go_wp2_with fail
    refine bodyPost_ret (results_tmp rfl _ _ _) rfl ⟨none, 0, rfl, ⟨.inl rfl, by simp⟩, Below.refl _ _⟩
  · have e : smD n = [⟨1, (n : Int), []⟩] := by unfold smD; rw [if_neg h]
    rw [e]
    have HK := hide (keep14_at (n : Int) w)
    have t1 : ((n : Int) == 0) = false := by simp; omega
    have t1' : (n == 0) = false := by simpa using h
    clear h e
    go_enter Try.func10, Try.ntmps10
    go_wp2_with fail
    refine (unhide HK).mono ?_
    rintro y w1 ⟨rfl, x1⟩
    dsimp only
    have l1 := lit_isO w1 [⟨1, (n : Int), []⟩] #[.int .i64 1, .int .i64 (n : Int), .string ⟨#[]⟩] rfl
    have HB := hide (x1.alloc x1.size (.cells #[.int .i64 1, .int .i64 (n : Int), .string ⟨#[]⟩] 43))
    have HL := hide l1
    clear HK x1 l1
    go_wp2_with fail
    refine bodyPost_ret (results_tmp rfl _ _ _) rfl ⟨_, _, rfl, ⟨unhide HL, by simp⟩, unhide HB⟩
set_option maxRecDepth 100000 in
set_option maxHeartbeats 4000000 in
theorem ShiftNothing_any (a1 : Option Addr) (c1 : Nat) (d : List Dop) (f : Bool) (w : World) (hx : IsO w a1 d) (_hzx : d = [] ∨ ∃ q, a1 = some q) (hlx : d.length * 32 ≤ 140737488355328) (htx : ∀ o ∈ d, TbD o ∧ o.t.length ≤ 140737488355328) (hcx : d.length ≤ c1) :
    Calls Try.prog 3 #[.slice a1 d.length c1, .bool f] w fun y w' => y = .returned (.bool true) ∧ Below w.heap.size w w' := by
  have HAw := hide (fixed14_at w)
  have HLN := hide fun (X : World) (hX : Below w.heap.size w X) => Lens_at a1 c1 d X (hx.below hX (Nat.le_refl _)) (by omega)
  unfold lensV at HLN
  cases hv : valB d with
  | false =>
    rw [hv] at HLN
    simp only [Bool.false_eq_true, if_false] at HLN
    have HOV := hide fun (X : World) (hX : Below w.heap.size w X) => OverO_at a1 c1 d a1 c1 d f X ⟨hx.below hX (Nat.le_refl _), hcx⟩ ⟨hx.below hX (Nat.le_refl _), hcx⟩ (fun o ho => (htx o ho).2) (by omega) (by omega)
    have hE : ovE d d f = 130 := by unfold ovE; rw [hv]; simp
    rw [hE] at HOV
    clear hx _hzx hlx htx hcx hv hE
    generalize ovD d d f = L at *
    go_enter Try.func3, Try.ntmps3
    go_wp2_with fail
    refine (unhide HAw).mono ?_
    rintro y w1 ⟨rfl, x1⟩
    dsimp only
    have HX1 := hide x1
    clear HAw x1
    have HC2 := hide (unhide HLN w1 (unhide HX1))
    go_wp2_with fail
    refine (unhide HC2).mono ?_
    rintro y w2 ⟨rfl, x2⟩
    dsimp only
    have HX2 := hide ((unhide HX1).trans (x2.mono (unhide HX1).size))
    clear HC2 HX1 x2  HLN
    have HC3 := hide (unhide HOV w2 (unhide HX2))
    go_wp2_with fail
    refine (unhide HC3).mono ?_
    rintro y w3 ⟨a3, c3, rfl, _, x3⟩
    dsimp only
    have HX3 := hide ((unhide HX2).trans (x3.mono (unhide HX2).size))
    clear HC3 HX2 x3  HOV
    go_wp2_with fail
    refine bodyPost_ret (results_tmp rfl _ _ _) rfl ⟨rfl, unhide HX3⟩
  | true =>
    rw [hv] at HLN
    simp only [if_true] at HLN
    obtain ⟨l1, l2⟩ := no_left (f := f) hv
    obtain ⟨r1, r2⟩ := no_right (f := f) hv
    have s1 := smD_len (frD d)
    have s2 := smD_len (toD d)
    have HS1 := hide fun (X : World) (_ : Below w.heap.size w X) => same14_at (frD d) X
    have HS2 := hide fun (X : World) (_ : Below w.heap.size w X) => same14_at (toD d) X
    have HO1 := hide fun (X : World) (hX : Below w.heap.size w X) (a3 : Option Addr) (c3 : Nat) (h3 : IsO X a3 (smD (frD d)) ∧ (smD (frD d)).length ≤ c3) => OverO_at a3 c3 _ a1 c1 d f X h3 ⟨hx.below hX (Nat.le_refl _), hcx⟩ (fun o ho => by rw [smD_tx _ o ho]; simp) (by omega) (by omega)
    have HO2 := hide fun (X : World) (hX : Below w.heap.size w X) (a3 : Option Addr) (c3 : Nat) (h3 : IsO X a3 (smD (frD d)) ∧ (smD (frD d)).length ≤ c3) => OverO_at a1 c1 d a3 c3 _ f X ⟨hx.below hX (Nat.le_refl _), hcx⟩ h3 (fun o ho => (htx o ho).2) (by omega) (by omega)
    rw [l1, l2] at HO1
    rw [r1, r2] at HO2
    have HE1 := hide fun (X : World) (hX : Below w.heap.size w X) (a3 : Option Addr) (c3 : Nat) (h3 : IsO X a3 d) => RSame14_at a3 c3 d a1 c1 d X h3 (hx.below hX (Nat.le_refl _)) (by omega) (by omega) (fun o ho => (htx o ho).1) (fun o ho => (htx o ho).1)
    have bS : ∀ o ∈ smD (toD d), TbD o := fun o ho => by unfold TbD; rw [smD_tx _ o ho]; simp
    have HE2 := hide fun (X : World) (_ : Below w.heap.size w X) (a3 : Option Addr) (c3 : Nat) (a4 : Option Addr) (c4 : Nat) (h3 : IsO X a3 (smD (toD d))) (h4 : IsO X a4 (smD (toD d))) => RSame14_at a3 c3 _ a4 c4 _ X h3 h4 (by omega) (by omega) bS bS
    simp only [decide_true] at HE1 HE2
    clear hx _hzx hlx htx hcx hv l1 l2 r1 r2 s1 s2 bS
    generalize smD (frD d) = S1 at *
    generalize smD (toD d) = S2 at *
    generalize frD d = n1 at *
    generalize toD d = n2 at *
    go_enter Try.func3, Try.ntmps3
    go_wp2_with fail
    refine (unhide HAw).mono ?_
    rintro y w1 ⟨rfl, x1⟩
    dsimp only
    have HX1 := hide x1
    clear HAw x1
    have HC2 := hide (unhide HLN w1 (unhide HX1))
    go_wp2_with fail
    refine (unhide HC2).mono ?_
    rintro y w2 ⟨rfl, x2⟩
    dsimp only
    have HX2 := hide ((unhide HX1).trans (x2.mono (unhide HX1).size))
    clear HC2 HX1 x2  HLN
    have HC3 := hide (unhide HS1 w2 (unhide HX2))
    go_wp2_with fail
    refine (unhide HC3).mono ?_
    rintro y w3 ⟨a3, c3, rfl, ⟨i3, l3⟩, x3⟩
    dsimp only
    have HX3 := hide ((unhide HX2).trans (x3.mono (unhide HX2).size))
    have s_3 := hide (i3)
    clear HC3 HX2 x3  i3
    have HC4 := hide (unhide HO1 w3 (unhide HX3) a3 c3 ⟨unhide s_3, l3⟩)
    go_wp2_with fail
    refine (unhide HC4).mono ?_
    rintro y w4 ⟨a4, c4, rfl, ⟨i4, l4⟩, x4⟩
    dsimp only
    have HX4 := hide ((unhide HX3).trans (x4.mono (unhide HX3).size))
    have s_4 := hide ((unhide s_3).below x4 (Nat.le_refl _))
    have x_4 := hide (i4)
    clear HC4 HX3 x4 s_3 HO1 i4 l3 l4
    clear s_4
    have HC5 := hide (unhide HS1 w4 (unhide HX4))
    go_wp2_with fail
    refine (unhide HC5).mono ?_
    rintro y w5 ⟨a5, c5, rfl, ⟨i5, l5⟩, x5⟩
    dsimp only
    have HX5 := hide ((unhide HX4).trans (x5.mono (unhide HX4).size))
    have x_5 := hide ((unhide x_4).below x5 (Nat.le_refl _))
    have s_5 := hide (i5)
    clear HC5 HX4 x5 x_4 HS1 i5
    have HC6 := hide (unhide HO2 w5 (unhide HX5) a5 c5 ⟨unhide s_5, l5⟩)
    go_wp2_with fail
    refine (unhide HC6).mono ?_
    rintro y w6 ⟨a6, c6, rfl, ⟨i6, l6⟩, x6⟩
    dsimp only
    have HX6 := hide ((unhide HX5).trans (x6.mono (unhide HX5).size))
    have x_6 := hide ((unhide x_5).below x6 (Nat.le_refl _))
    have s_6 := hide ((unhide s_5).below x6 (Nat.le_refl _))
    have y_6 := hide (i6)
    clear HC6 HX5 x6 x_5 s_5 HO2 i6 l5 l6
    clear s_6
    have HC7 := hide (unhide HE1 w6 (unhide HX6) a4 c4 (unhide x_6))
    go_wp2_with fail
    refine (unhide HC7).mono ?_
    rintro y w7 ⟨rfl, x7⟩
    dsimp only
    have HX7 := hide ((unhide HX6).trans (x7.mono (unhide HX6).size))
    have x_7 := hide ((unhide x_6).below x7 (Nat.le_refl _))
    have y_7 := hide ((unhide y_6).below x7 (Nat.le_refl _))
    clear HC7 HX6 x7 x_6 y_6 HE1
    clear x_7
    have HC8 := hide (unhide HS2 w7 (unhide HX7))
    go_wp2_with fail
    refine (unhide HC8).mono ?_
    rintro y w8 ⟨a7, c7, rfl, ⟨i7, l7⟩, x8⟩
    dsimp only
    have HX8 := hide ((unhide HX7).trans (x8.mono (unhide HX7).size))
    have y_8 := hide ((unhide y_7).below x8 (Nat.le_refl _))
    have s_8 := hide (i7)
    clear HC8 HX7 x8 y_7 HS2 i7 l7
    have HC9 := hide (unhide HE2 w8 (unhide HX8) a6 c6 a7 c7 (unhide y_8) (unhide s_8))
    go_wp2_with fail
    refine (unhide HC9).mono ?_
    rintro y w9 ⟨rfl, x9⟩
    dsimp only
    have HX9 := hide ((unhide HX8).trans (x9.mono (unhide HX8).size))
    have y_9 := hide ((unhide y_8).below x9 (Nat.le_refl _))
    have s_9 := hide ((unhide s_8).below x9 (Nat.le_refl _))
    clear HC9 HX8 x9 y_8 s_8 HE2
    clear y_9
    clear s_9
    go_wp2_with fail
    refine bodyPost_ret (results_tmp rfl _ _ _) rfl ⟨rfl, unhide HX9⟩

end Go.Proofs.Ythikhnlgpljbpab
end

section
namespace Go.Proofs.Ythikhnlgpljbpab
open Go.ChangeShapes Go.WideShapes Go.ChangeAt Go.RowKit

theorem ownC : ownKnob Try.prog.godebug = none := by kernel_rfl
theorem laidOut : laidOutB Try.prog = true := by kernel_rfl
noncomputable def laidWorld (os : Os) : World := World.holding Try.prog os ⟨#[], #[], []⟩
/-- a []byte that came in reads as these bytes -/
theorem row_of_trod {H : Type} {enc : TypeId × Value → H} {W : World} {a0 : Option Addr} {len0 cap0 : Nat} {d0 : DataW H} {p0 : List MemPlace}
    (h0 : DataW.Trod enc Try.prog W 0 (fun _ => true) true 109 (Value.slice a0 len0 cap0) d0 p0)
    {ts : List TypeId} {ds : List (DataW H)} {j : Nat} (hsz : (DataW.weightsEach Try.prog ts ds).all (· ≤ reachBytes) = true) (ht : ts[j]? = some 109) (hd : ds[j]? = some d0) :
    ∃ l : List Int, len0 = l.length ∧ IsB W a0 cap0 l := by
  obtain ⟨fuel, hf⟩ := h0
  rcases open_ints Try.underlying109 Try.underlying5 (by kernel_rfl) hf with ⟨hcs, _⟩ | ⟨x, l, c, zs, hcs, _, hl, hm, hz, hx, hcell, hwz⟩
  · simp [Value.cells] at hcs
    obtain ⟨rfl, rfl, rfl⟩ := hcs
    exact ⟨[], rfl, by simp, by simp, Or.inl rfl, by simp⟩
  · simp [Value.cells] at hcs
    obtain ⟨rfl, rfl, rfl⟩ := hcs
    simp only [Prod.mk.injEq] at hx
    obtain ⟨rfl, _⟩ := hx
    have hz' : zs.length = cap0 := by simpa using hz
    have hs := sized_slice hsz ht hd Try.underlying109
    rw [show Try.prog.bytesOf 5 = 1 by kernel_rfl] at hs
    have hr : reachBytes = 140737488351232 := rfl
    simp [lits] at hs
    have hlen : (zs.take len0).length = len0 := by simp; omega
    have hby : ∀ x ∈ zs, 0 ≤ x ∧ x ≤ 255 := fun n hn => bounds_u8 (hwz n hn)
    refine ⟨zs.take len0, hlen.symm, by rw [hlen]; omega, by rw [hlen]; omega, ?_, fun y hy => hby y (List.mem_of_mem_take hy)⟩
    rcases Nat.eq_zero_or_pos len0 with h0 | h0
    · subst h0; exact Or.inl rfl
    · obtain ⟨b, off, spot⟩ := x
      have hspot : spot = none := by simpa [Addr.add] using World.cell?_spot (hcell 0 (by omega))
      subst hspot
      refine Or.inr ⟨b, off, rfl, fun i hi => ?_⟩
      rw [hlen] at hi
      have e : (zs.take len0).getD i 0 = zs.getD i 0 := by simp [List.getD, hi]
      rw [e]
      have hc := hcell i (by omega)
      rw [Addr.add_lit] at hc
      refine ⟨hc, ?_⟩
      have := hby (zs[i]'(by omega)) (List.getElem_mem _)
      simpa [List.getD, List.getElem?_eq_getElem (show i < zs.length by omega)] using this
theorem one_intO {H : Type} {enc : TypeId × Value → H} {P : Program} {W : World} {spare : Nat → Bool} {m : Nat} {t : TypeId} (ht : P.underlying t = some (.int .i64)) {xs : List (DataW H × List MemPlace)} {L : List Value} {i k : Nat} (hi : i < xs.length)
    (h : DataW.trod enc P W 0 spare true m t ((L.drop k).take 1) = xs[i]?) : ∃ n : Int, L[k]? = some (.int .i64 n) := by
  rw [List.getElem?_eq_getElem hi] at h
  obtain ⟨n, hn, _⟩ := DataW.trod_int ht h
  refine ⟨n, ?_⟩
  have := congrArg (·[0]?) hn
  simpa [List.getElem?_take, List.getElem?_drop] using this
theorem one_strO {H : Type} {enc : TypeId × Value → H} {P : Program} {W : World} {spare : Nat → Bool} {m : Nat} {t : TypeId} (ht : P.underlying t = some .string) {xs : List (DataW H × List MemPlace)} {L : List Value} {i k : Nat} (hi : i < xs.length)
    (h : DataW.trod enc P W 0 spare true m t ((L.drop k).take 1) = xs[i]?) : ∃ s : ByteArray, L[k]? = some (.string s) ∧ (xs[i]'hi).1 = .lit (.string s.data.toList) := by
  rw [List.getElem?_eq_getElem hi] at h
  obtain ⟨n, hn, hx⟩ := DataW.trod_string ht h
  refine ⟨n, ?_, by rw [hx.1]⟩
  have := congrArg (·[0]?) hn
  simpa [List.getElem?_take, List.getElem?_drop] using this
/-- a string's bytes as numbers -/
def numsO (s : ByteArray) : List Int := s.data.toList.map fun u => (u.toNat : Int)
theorem numsO_in (s : ByteArray) : ∀ x ∈ numsO s, 0 ≤ x ∧ x ≤ 255 := by
  intro x hx
  obtain ⟨u, _, rfl⟩ := List.mem_map.1 hx
  have := u.toNat_lt
  omega
theorem str_numsO (s : ByteArray) : strOfNums (numsO s) = s := by
  unfold strOfNums numsO
  apply ByteArray.ext
  have e : ((fun n : Int => UInt8.ofNat n.toNat) ∘ fun u : UInt8 => (u.toNat : Int)) = id := by
    funext u
    simp
  rw [List.map_map, e, List.map_id]
theorem wE_atO {H : Type} {P : Program} : ∀ {ts : List TypeId} {ds : List (DataW H)} {j : Nat} {t : TypeId} {d : DataW H}, ts[j]? = some t → ds[j]? = some d → ∀ x ∈ d.weights P t, x ∈ DataW.weightsEach P ts ds
  | [], _, _, _, _, ht, _, _, _ => by simp at ht
  | _ :: _, [], _, _, _, _, hd, _, _ => by simp at hd
  | t0 :: ts, d0 :: ds, 0, t, d, ht, hd, x, hx => by
    simp only [List.getElem?_cons_zero, Option.some.injEq] at ht hd
    subst ht hd
    rw [DataW.weightsEach]
    exact List.mem_append_left _ hx
  | t0 :: ts, d0 :: ds, j + 1, t, d, ht, hd, x, hx => by
    simp only [List.getElem?_cons_succ] at ht hd
    rw [DataW.weightsEach]
    exact List.mem_append_right _ (wE_atO ht hd x hx)
theorem wA_atO {H : Type} {P : Program} {e : TypeId} : ∀ {l : List (DataW H)} {d : DataW H}, d ∈ l → ∀ x ∈ d.weights P e, x ∈ DataW.weightsAll P e l
  | [], _, h, _, _ => by simp at h
  | d0 :: r, d, h, x, hx => by
    rw [DataW.weightsAll]
    rcases List.mem_cons.1 h with rfl | h
    · exact List.mem_append_left _ hx
    · exact List.mem_append_right _ (wA_atO h x hx)
instance : Inhabited Dop := ⟨opZ⟩
set_option maxRecDepth 100000 in
theorem op_cells {H : Type} {enc : TypeId × Value → H} {W : World} {cs : List Value} {fuel : Nat} {x : DataW H × List MemPlace}
    (hl : cs.length = 3) (hb : ∀ y ∈ x.1.weights Try.prog 43, y ≤ reachBytes) (hf : DataW.trod enc Try.prog W 0 (fun _ => true) true fuel 43 cs = some x) : ∃ q : Dop, cs = opL q ∧ TbD q ∧ q.t.length ≤ 140737488355328 := by
  obtain ⟨xs, n, _, hxx, _, hx, hall⟩ := DataW.trod_struct Try.underlying43 hf
  have hx' : xs.length = 3 := hx
  have hc : Try.prog.cellsOf 3 = 1 := by kernel_rfl
  have hc1 : Try.prog.cellsOf 41 = 1 := by kernel_rfl
  have hc2 : Try.prog.cellsOf 9 = 1 := by kernel_rfl
  have j0 : DataW.trod enc Try.prog W 0 (fun _ => true) true n 41 ((cs.drop 0).take (Try.prog.cellsOf 41)) = xs[0]? := hall 0 _ rfl
  have j1 : DataW.trod enc Try.prog W 0 (fun _ => true) true n 3 ((cs.drop 1).take (Try.prog.cellsOf 3)) = xs[1]? := hall 1 _ rfl
  have j2 : DataW.trod enc Try.prog W 0 (fun _ => true) true n 9 ((cs.drop 2).take (Try.prog.cellsOf 9)) = xs[2]? := hall 2 _ rfl
  rw [hc1] at j0
  rw [hc] at j1
  rw [hc2] at j2
  obtain ⟨k, e0⟩ := one_intO Try.underlying41 (by omega) j0
  obtain ⟨m, e1⟩ := one_intO Try.underlying3 (by omega) j1
  obtain ⟨s, e2, es⟩ := one_strO Try.underlying9 (by omega) j2
  refine ⟨⟨k, m, numsO s⟩, ?_, numsO_in s, ?_⟩
  · unfold opL
    dsimp only
    rw [str_numsO]
    apply List.ext_getElem?
    intro i
    match i with
    | 0 => exact e0
    | 1 => exact e1
    | 2 => exact e2
    | i + 3 => rw [List.getElem?_eq_none (by omega)]; rfl
  · have h1 : (xs.map fun x => x.1)[2]? = some (xs[2]'(by omega)).1 := by simp [List.getElem?_eq_getElem (show 2 < xs.length by omega)]
    have hr : reachBytes = 140737488351232 := rfl
    have := hb s.data.toList.length (by
      rw [hxx]
      simp only [DataW.weights, Try.underlying43]
      refine wE_atO (j := 2) (t := 9) rfl h1 _ ?_
      rw [es]
      simp [DataW.weights])
    simp only [numsO, List.length_map]
    omega
set_option maxRecDepth 100000 in
/-- the list of operations -/
theorem ops_of_trod {H : Type} {enc : TypeId × Value → H} {W : World} {a0 : Option Addr} {len0 cap0 : Nat} {d0 : DataW H} {p0 : List MemPlace}
    (h0 : DataW.Trod enc Try.prog W 0 (fun _ => true) true 23 (Value.slice a0 len0 cap0) d0 p0)
    {ts : List TypeId} {ds : List (DataW H)} {j : Nat} (hsz : (DataW.weightsEach Try.prog ts ds).all (· ≤ reachBytes) = true) (ht : ts[j]? = some 23) (hd : ds[j]? = some d0) :
    ∃ q : List Dop, len0 = q.length ∧ IsO W a0 q ∧ (q = [] ∨ ∃ p, a0 = some p) ∧ q.length * 32 ≤ 140737488355328 ∧ ∀ o ∈ q, TbD o ∧ o.t.length ≤ 140737488355328 := by
  have hall : ∀ y ∈ d0.weights Try.prog 23, y ≤ reachBytes := fun y hy => of_decide_eq_true (List.all_eq_true.1 hsz y (wE_atO ht hd y hy))
  obtain ⟨fuel, hf⟩ := h0
  rcases Go.Deep.open_slice Try.underlying23 hf with ⟨hcs, _⟩ | ⟨a, len, cap, m, n, D, Pl, hcs, _, hl, hm, hmm, hx, hrow⟩
  · simp [Value.cells] at hcs
    obtain ⟨rfl, rfl, rfl⟩ := hcs
    exact ⟨[], rfl, Or.inl rfl, Or.inl rfl, by simp, by simp⟩
  · simp [Value.cells] at hcs
    obtain ⟨rfl, rfl, rfl⟩ := hcs
    simp only [Prod.mk.injEq] at hx
    obtain ⟨rfl, _⟩ := hx
    have hs := sized_slice hsz ht hd Try.underlying23
    rw [show Try.prog.bytesOf 43 = 32 by kernel_rfl] at hs
    have hr : reachBytes = 140737488351232 := rfl
    simp only [List.length_map, List.length_range] at hs
    simp only [DataW.weights, Try.underlying23] at hall
    simp only [if_true] at hmm
    subst hmm
    have ce : Try.prog.cellsOf 43 = 3 := by kernel_rfl
    have each : ∀ r, r < len0 → ∃ y : Dop, (TbD y ∧ y.t.length ≤ 140737488355328) ∧ ∀ j, j < 3 → W.cell? (a.add (r * 3 + j)) = (opL y)[j]? := by
      intro r hr
      obtain ⟨cs', h1, h2⟩ := hrow r (by omega)
      rw [ce] at h1
      obtain ⟨_, hlen, hcell⟩ := World.cells?_some h1
      have hbr : ∀ y ∈ (D r).weights Try.prog 43, y ≤ reachBytes := fun y hy => hall y (List.mem_cons_of_mem _ (List.mem_append_left _ (wA_atO (by simp; exact ⟨r, hr, rfl⟩) y hy)))
      obtain ⟨y, rfl, hby⟩ := op_cells hlen hbr h2
      refine ⟨y, hby, fun j hj => ?_⟩
      have e := hcell j (by omega)
      rw [Go.Deep.add_add] at e
      rw [e, List.getElem?_eq_getElem (by simpa [opL] using hj)]
    obtain ⟨y, hy⟩ := Go.Deep.choose_lt each
    refine ⟨(List.range len0).map y, by simp, ?_, Or.inr ⟨_, rfl⟩, by simp; omega, ?_⟩
    · rcases Nat.eq_zero_or_pos len0 with h0 | h0
      · subst h0; exact Or.inl rfl
      · obtain ⟨b, off, spot⟩ := a
        have hc1 : W.cell? (Addr.add ⟨b, off, spot⟩ (0 * 3 + 0)) = some (.int .i64 (y 0).k) := (hy 0 (by omega)).2 0 (by decide)
        have hspot : spot = none := by simpa [Addr.add] using World.cell?_spot hc1
        subst hspot
        have hbl : b < W.heap.size := by
          rcases Nat.lt_or_ge b W.heap.size with h | h
          · exact h
          · rw [Addr.add_lit] at hc1
            simp [World.cell?, Array.getElem?_eq_none h] at hc1
        refine Or.inr ⟨b, off, rfl, hbl, fun r hr => ?_⟩
        simp only [List.length_map, List.length_range] at hr
        have hgr : ((List.range len0).map y).getD r opZ = y r := by simp [List.getD, hr]
        rw [hgr]
        have f : ∀ j, j < 3 → W.cell? ⟨b, off + (r * 3 + j), none⟩ = (opL (y r))[j]? := fun j hj => by have := (hy r hr).2 j hj; rwa [Addr.add_lit] at this
        exact ⟨f 0 (by decide), f 1 (by decide), f 2 (by decide)⟩
    · intro o ho
      obtain ⟨r, hr, rfl⟩ := List.mem_map.1 ho
      exact (hy r (by simpa using hr)).1
end Go.Proofs.Ythikhnlgpljbpab
end

section
namespace Go.Proofs.Ythikhnlgpljbpab
open Go.ChangeShapes Go.WideShapes Go.ChangeAt Go.RowKit

theorem ops_cap {H : Type} {enc : TypeId × Value → H} {W : World} {a0 : Option Addr} {len0 cap0 : Nat} {d0 : DataW H} {p0 : List MemPlace}
    (h0 : DataW.Trod enc Try.prog W 0 (fun _ => true) true 23 (Value.slice a0 len0 cap0) d0 p0) : len0 ≤ cap0 := by
  obtain ⟨fuel, hf⟩ := h0
  rcases Go.Deep.open_slice Try.underlying23 hf with ⟨hcs, _⟩ | ⟨a, len, cap, m, n, D, Pl, hcs, _, hl, hm, hmm, hx, hrow⟩
  · simp [Value.cells] at hcs
    omega
  · simp [Value.cells] at hcs
    obtain ⟨rfl, rfl, rfl⟩ := hcs
    exact hl

end Go.Proofs.Ythikhnlgpljbpab
end
