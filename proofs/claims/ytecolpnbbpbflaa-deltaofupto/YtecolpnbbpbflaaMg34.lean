/- Layer 13: DeltaOf's walk (written by wip/tools/dsg.py). · Layer 13: arguments: bytes and a list of operations that came in, of whatever size. -/
import Derived.Test.YtecolpnbbpbflaaMg28
import Derived.Test.YtecolpnbbpbflaaMg33
import Derived.Test.YtecolpnbbpbflaaRows
import Derived.Test.YtecolpnbbpbflaaMg31
import Derived.SizedLaws
import Derived.LaidLaws
import Derived.Deep.DeepHandedRow
import Derived.Deep.Slices
import Derived.Deep.SlicePairs
import Derived.OpenShut

section
namespace Go.Proofs.Ytecolpnbbpbflaa
open Go.ChangeShapes Go.WideShapes Go.ChangeAt Go.RowKit
attribute [local go_sem] Oper.semAt_some

/-- append([]Change{}, cs...) -/
theorem copy_ch (w : World) (a0 : Option Addr) (cap : Nat) (d : List Dop) (ty : TypeId) (h : IsO w a0 d) (hz : d = [] ∨ ∃ a, a0 = some a) (hb : d.length * 32 ≤ 140737488355328) :
    ∃ v' w', (Builtin.append_ #[35, 35] ty #[.slice (some ⟨w.heap.size, 0, none⟩) 0 0, .slice a0 d.length cap]).run Try.prog (w.alloc (.cells #[] 79)) = .ok v' w' ∧
      w'.ownsRow w.heap.size 79 3 v' d.length (opsV d) ∧ Below w.heap.size w w' := by
  obtain ⟨i, hi, hzz, hs, hby⟩ := info_ch
  have hb0 : Below w.heap.size w (w.alloc (.cells #[] 79)) := (Below.refl _ _).alloc (Nat.le_refl _) _
  have hown : (w.alloc (.cells #[] 79)).ownsRow w.heap.size 79 3 (.slice (some ⟨w.heap.size, 0, none⟩) 0 0) 0 [] := World.ownsRow_made w #[] 0 (Nat.le_refl _) (Nat.zero_le _) rfl
  have h' := h.below hb0 (Nat.le_refl _)
  by_cases hd : d = []
  · subst hd
    refine ⟨.slice (some ⟨w.heap.size, 0, none⟩) 0 0, _, ?_, hown, hb0⟩
    have hsrc : Src Try.prog i.size 35 (.slice a0 0 cap) 0 [] (w.alloc (.cells #[] 79)) := by
      cases a0 with
      | none => exact Src.ofNil _ Try.underlying35 cap
      | some x => exact Src.ofSlice _ Try.underlying35 x 0 cap [] (by simp) (fun j u h => by simp at h) (fun u h => by cases h)
    exact run_append_room_src (P := Try.prog) (w.alloc (.cells #[] 79)) 35 35 ty 79 i Try.underlying35 hi w.heap.size 0 0 0 (.slice a0 0 cap) 0 [] hsrc (Nat.le_refl _) (fun j hj => absurd hj (Nat.not_lt_zero _)) (fun j hj => absurd hj (Nat.not_lt_zero _))
  · rcases h' with h' | ⟨g, off, rfl, hg, hL⟩
    · exact absurd h' hd
    obtain ⟨v', w', hr, ho, hgr, _⟩ := run_append_own (P := Try.prog) (w.alloc (.cells #[] 79)) w.heap.size 35 ty 79 i (.agg #[.int .i64 0, .int .i64 0, .string ⟨#[]⟩]) 3 32 Try.underlying35 hi hzz hs hby rfl (by decide)
      _ 0 [] hown ⟨g, off, none⟩ d.length cap (opsV d) (opsV_len d)
      (fun j u hj => by
        have hjl : j < (opsV d).length := (List.getElem?_eq_some_iff.1 hj).1
        rw [opsV_len] at hjl
        have hk : j / 3 < d.length := by omega
        have e := opsV_get d (j / 3) (j % 3) hk (by omega)
        rw [show j / 3 * 3 + j % 3 = j by omega, hj] at e
        obtain ⟨c0, c1, c2⟩ := hL (j / 3) hk
        rw [Addr.add_lit]
        have hm : j % 3 = 0 ∨ j % 3 = 1 ∨ j % 3 = 2 := by omega
        rcases hm with hm | hm | hm
        · rw [hm] at e; rw [show off + j = off + j / 3 * 3 by omega]; exact c0.trans e.symm
        · rw [hm] at e; rw [show off + j = off + j / 3 * 3 + 1 by omega]; exact c1.trans e.symm
        · rw [hm] at e; rw [show off + j = off + j / 3 * 3 + 2 by omega]; exact c2.trans e.symm)
      (fun u hu => by obtain ⟨x, _, hx⟩ := List.mem_flatMap.1 hu; exact opL_cell hx) (by unfold maxLen; omega) (by omega) (by simp)
    refine ⟨v', w', hr, ?_, hb0.grown hgr (by simp) (fun k e => by cases e; exact Nat.le_refl _)⟩
    rw [Nat.zero_add, List.nil_append] at ho
    exact ho
theorem opC_tb : ∀ (cs : List Dop) (p : Int), (∀ o ∈ cs, TbD o) → ∀ o ∈ opC p cs, TbD o
  | [], _, _, o, ho => by simp [opC] at ho
  | c :: r, p, h, o, ho => by
    simp only [opC, List.mem_cons] at ho
    rcases ho with rfl | rfl | rfl | ho
    · intro x hx; simp at hx
    · exact h c (by simp)
    · intro x hx; simp at hx
    · exact opC_tb r c.n (fun q hq => h q (by simp [hq])) o ho
theorem opsC_tb {cs : List Dop} {n : Int} (h : ∀ o ∈ cs, TbD o) : ∀ o ∈ opsC n cs, TbD o := fun o ho => by
  rcases List.mem_append.1 ho with ho | ho
  · exact opC_tb cs 0 h o ho
  · simp at ho; subst ho; intro x hx; simp at hx
theorem ofD_tb {cs : List Dop} {n E : Int} (h : ∀ o ∈ cs, TbD o) : ∀ o ∈ (ofD n cs E).1, TbD o := by
  unfold ofD
  split
  · split
    · simp
    · exact can_tb (opsC_tb h)
  · simp
theorem ofD_len {cs : List Dop} {n E : Int} (hE : ErrC n cs E) : (ofD n cs E).1.length ≤ 4611686018427387904 := by
  unfold ofD
  split
  · rename_i h0
    split
    · simp
    · rename_i h1
      rcases errC_ok hE with ⟨_, hn, hok⟩ | h
      · have s := opsC_sizes hok
        have := can_small (d := opsC n cs) (fun o ho => (opsC_ok hok o ho).1) (by omega)
        dsimp only
        omega
      · exact absurd h0 h
  · simp
set_option maxRecDepth 100000 in
set_option maxHeartbeats 2000000 in
theorem DeltaOf_any (n : Int) (a : Option Addr) (c : Nat) (cs : List Dop) (w : World) (_hn : (Lit.int .i64 n).wf = true) (h : IsO w a cs) (hz : cs = [] ∨ ∃ q, a = some q) (hl : cs.length ≤ 1048576) (ht : ∀ o ∈ cs, TbD o ∧ o.t.length ≤ 1048576) :
    Calls Try.prog 4 #[.int .i64 n, .slice a cs.length c] w fun y w' => y = .returned (.bool true) ∧ Below w.heap.size w w' := by
  obtain ⟨E, hE⟩ := errC_is n cs
  have HAw := hide (awake13_at w)
  have HCp := hide fun (X : World) (hx : Below w.heap.size w X) => copy_ch X a c cs 35 (h.below hx (Nat.le_refl _)) hz (by omega)
  have HOf := hide fun (X : World) (a2 : Option Addr) (c2 : Nat) (h2 : IsO X a2 cs) => (Of_atD a2 c2 n cs E X h2 (by omega) hE).mono (R' := fun y w' => ∃ a' c', y = .returned (.tuple #[.slice a' (ofD n cs E).1.length c', .int .i64 (ofD n cs E).2]) ∧ IsO w' a' (ofD n cs E).1 ∧ Below X.heap.size X w') fun y w' ⟨v, e, ho, x⟩ => by
    obtain ⟨a', c', rfl, hi, _⟩ := own_isOC ho
    exact ⟨a', c', e, hi, x⟩
  have HRO := hide fun (X : World) (hx : Below w.heap.size w X) => ROf_atD a c n cs E X (h.below hx (Nat.le_refl _)) hl (fun o ho => (ht o ho).2) hE
  have HSa := hide fun (X : World) (_ : Below w.heap.size w X) (a1 : Option Addr) (c1 : Nat) (a2 : Option Addr) (c2 : Nat) (h1 : IsO X a1 (ofD n cs E).1) (h2 : IsO X a2 (ofD n cs E).1) => same13_at a1 c1 _ a2 c2 _ X h1 h2 (ofD_len hE) (ofD_len hE) (ofD_tb fun o ho => (ht o ho).1) (ofD_tb fun o ho => (ht o ho).1)
  have HD : Hid (decide ((ofD n cs E).1 = (ofD n cs E).1) = true) := hide (by simp)
  rw [unhide HD] at HSa
  clear h hz hl ht hE HD
  generalize (ofD n cs E).1 = OD at *
  generalize (ofD n cs E).2 = OE at *
  go_enter Try.func4, Try.ntmps4
  go_wp2_with fail
  refine (unhide HAw).mono ?_
  rintro y w1 ⟨rfl, x1⟩
  dsimp only
  obtain ⟨v2, w2, r2, o2, b2⟩ := unhide HCp w1 x1
  obtain ⟨a2, c2, rfl, i2, _⟩ := own_isOC o2
  have R2 := hide r2
  have HX2 := hide (x1.trans (b2.mono x1.size))
  have HC2 := hide (unhide HOf w2 a2 c2 i2)
  clear HAw HCp HOf x1 r2 o2 b2 i2
  go_wp2_with (at_builtin; refine wpList_append_known rfl _ _ 35 35 rfl _ _ rfl rfl _ _ (unhide R2) ?_; clear R2)
  refine (unhide HC2).mono ?_
  rintro y w3 ⟨a3, c3, rfl, i3, x3⟩
  dsimp only
  have HX3 := hide ((unhide HX2).trans (x3.mono (unhide HX2).size))
  have of_3 := hide i3
  clear HC2 HX2 x3 i3
  have HC4 := hide (unhide HRO w3 (unhide HX3))
  go_wp2_with fail
  refine (unhide HC4).mono ?_
  rintro y w4 ⟨a4, c4, rfl, i4, x4⟩
  dsimp only
  have HX4 := hide ((unhide HX3).trans (x4.mono (unhide HX3).size))
  have of_4 := hide ((unhide of_3).below x4 (Nat.le_refl _))
  have ro_4 := hide (i4)
  clear HC4 HX3 x4 of_3 HRO i4
  have HC5 := hide (unhide HSa w4 (unhide HX4) a3 c3 a4 c4 (unhide of_4) (unhide ro_4))
  go_wp2_with fail
  refine (unhide HC5).mono ?_
  rintro y w5 ⟨rfl, x5⟩
  dsimp only
  have HX5 := hide ((unhide HX4).trans (x5.mono (unhide HX4).size))
  have of_5 := hide ((unhide of_4).below x5 (Nat.le_refl _))
  have ro_5 := hide ((unhide ro_4).below x5 (Nat.le_refl _))
  clear HC5 HX4 x5 of_4 ro_4 HSa
  clear of_5
  clear ro_5
  go_wp2_with fail
  refine bodyPost_ret (results_tmp rfl _ _ _) rfl ⟨rfl, unhide HX5⟩

end Go.Proofs.Ytecolpnbbpbflaa
end

section
namespace Go.Proofs.Ytecolpnbbpbflaa
open Go.ChangeShapes Go.WideShapes Go.ChangeAt Go.RowKit

theorem ownC : ownKnob Try.prog.godebug = none := by kernel_rfl
theorem laidOut : laidOutB Try.prog = true := by kernel_rfl
noncomputable def laidWorld (os : Os) : World := World.holding Try.prog os ⟨#[], #[], []⟩
/-- a []byte that came in reads as these bytes -/
theorem row_of_trod {H : Type} {enc : TypeId × Value → H} {W : World} {a0 : Option Addr} {len0 cap0 : Nat} {d0 : DataW H} {p0 : List MemPlace}
    (h0 : DataW.Trod enc Try.prog W 0 (fun _ => true) true 45 (Value.slice a0 len0 cap0) d0 p0)
    {ts : List TypeId} {ds : List (DataW H)} {j : Nat} (hsz : (DataW.weightsEach Try.prog ts ds).all (· ≤ reachBytes) = true) (ht : ts[j]? = some 45) (hd : ds[j]? = some d0) :
    ∃ l : List Int, len0 = l.length ∧ IsB W a0 cap0 l := by
  obtain ⟨fuel, hf⟩ := h0
  rcases open_ints Try.underlying45 Try.underlying5 (by kernel_rfl) hf with ⟨hcs, _⟩ | ⟨x, l, c, zs, hcs, _, hl, hm, hz, hx, hcell, hwz⟩
  · simp [Value.cells] at hcs
    obtain ⟨rfl, rfl, rfl⟩ := hcs
    exact ⟨[], rfl, by simp, by simp, Or.inl rfl, by simp⟩
  · simp [Value.cells] at hcs
    obtain ⟨rfl, rfl, rfl⟩ := hcs
    simp only [Prod.mk.injEq] at hx
    obtain ⟨rfl, _⟩ := hx
    have hz' : zs.length = cap0 := by simpa using hz
    have hs := sized_slice hsz ht hd Try.underlying45
    rw [show Try.prog.bytesOf 5 = 1 by kernel_rfl] at hs
    have hr : reachBytes = 140737488351232 := rfl
    simp [lits] at hs
    have hlen : (zs.take len0).length = len0 := by simp; omega
    have hby : ∀ x ∈ zs, 0 ≤ x ∧ x ≤ 255 := fun n hn => bounds_u8 (hwz n hn)
    refine ⟨zs.take len0, hlen.symm, by rw [hlen]; omega, by rw [hlen]; omega, ?_, fun y hy => hby y (List.mem_of_mem_take hy)⟩
    rcases Nat.eq_zero_or_pos len0 with h0 | h0
    · subst h0; exact Or.inl rfl
    · obtain ⟨b, off, spot⟩ := x
      have hspot : spot = none := by simpa [Addr.add] using World.cell?_spot (hcell 0 (by omega))
      subst hspot
      refine Or.inr ⟨b, off, rfl, fun i hi => ?_⟩
      rw [hlen] at hi
      have e : (zs.take len0).getD i 0 = zs.getD i 0 := by simp [List.getD, hi]
      rw [e]
      have hc := hcell i (by omega)
      rw [Addr.add_lit] at hc
      refine ⟨hc, ?_⟩
      have := hby (zs[i]'(by omega)) (List.getElem_mem _)
      simpa [List.getD, List.getElem?_eq_getElem (show i < zs.length by omega)] using this
theorem one_intO {H : Type} {enc : TypeId × Value → H} {P : Program} {W : World} {spare : Nat → Bool} {m : Nat} {t : TypeId} (ht : P.underlying t = some (.int .i64)) {xs : List (DataW H × List MemPlace)} {L : List Value} {i k : Nat} (hi : i < xs.length)
    (h : DataW.trod enc P W 0 spare true m t ((L.drop k).take 1) = xs[i]?) : ∃ n : Int, L[k]? = some (.int .i64 n) := by
  rw [List.getElem?_eq_getElem hi] at h
  obtain ⟨n, hn, _⟩ := DataW.trod_int ht h
  refine ⟨n, ?_⟩
  have := congrArg (·[0]?) hn
  simpa [List.getElem?_take, List.getElem?_drop] using this
theorem one_strO {H : Type} {enc : TypeId × Value → H} {P : Program} {W : World} {spare : Nat → Bool} {m : Nat} {t : TypeId} (ht : P.underlying t = some .string) {xs : List (DataW H × List MemPlace)} {L : List Value} {i k : Nat} (hi : i < xs.length)
    (h : DataW.trod enc P W 0 spare true m t ((L.drop k).take 1) = xs[i]?) : ∃ s : ByteArray, L[k]? = some (.string s) ∧ (xs[i]'hi).1 = .lit (.string s.data.toList) := by
  rw [List.getElem?_eq_getElem hi] at h
  obtain ⟨n, hn, hx⟩ := DataW.trod_string ht h
  refine ⟨n, ?_, by rw [hx.1]⟩
  have := congrArg (·[0]?) hn
  simpa [List.getElem?_take, List.getElem?_drop] using this
/-- a string's bytes as numbers -/
def numsO (s : ByteArray) : List Int := s.data.toList.map fun u => (u.toNat : Int)
theorem numsO_in (s : ByteArray) : ∀ x ∈ numsO s, 0 ≤ x ∧ x ≤ 255 := by
  intro x hx
  obtain ⟨u, _, rfl⟩ := List.mem_map.1 hx
  have := u.toNat_lt
  omega
theorem str_numsO (s : ByteArray) : strOfNums (numsO s) = s := by
  unfold strOfNums numsO
  apply ByteArray.ext
  have e : ((fun n : Int => UInt8.ofNat n.toNat) ∘ fun u : UInt8 => (u.toNat : Int)) = id := by
    funext u
    simp
  rw [List.map_map, e, List.map_id]
theorem wE_atO {H : Type} {P : Program} : ∀ {ts : List TypeId} {ds : List (DataW H)} {j : Nat} {t : TypeId} {d : DataW H}, ts[j]? = some t → ds[j]? = some d → ∀ x ∈ d.weights P t, x ∈ DataW.weightsEach P ts ds
  | [], _, _, _, _, ht, _, _, _ => by simp at ht
  | _ :: _, [], _, _, _, _, hd, _, _ => by simp at hd
  | t0 :: ts, d0 :: ds, 0, t, d, ht, hd, x, hx => by
    simp only [List.getElem?_cons_zero, Option.some.injEq] at ht hd
    subst ht hd
    rw [DataW.weightsEach]
    exact List.mem_append_left _ hx
  | t0 :: ts, d0 :: ds, j + 1, t, d, ht, hd, x, hx => by
    simp only [List.getElem?_cons_succ] at ht hd
    rw [DataW.weightsEach]
    exact List.mem_append_right _ (wE_atO ht hd x hx)
theorem wA_atO {H : Type} {P : Program} {e : TypeId} : ∀ {l : List (DataW H)} {d : DataW H}, d ∈ l → ∀ x ∈ d.weights P e, x ∈ DataW.weightsAll P e l
  | [], _, h, _, _ => by simp at h
  | d0 :: r, d, h, x, hx => by
    rw [DataW.weightsAll]
    rcases List.mem_cons.1 h with rfl | h
    · exact List.mem_append_left _ hx
    · exact List.mem_append_right _ (wA_atO h x hx)
instance : Inhabited Dop := ⟨opZ⟩
set_option maxRecDepth 100000 in
theorem op_cells {H : Type} {enc : TypeId × Value → H} {W : World} {cs : List Value} {fuel : Nat} {x : DataW H × List MemPlace}
    (hl : cs.length = 3) (hb : ∀ y ∈ x.1.weights Try.prog 64, y ≤ reachBytes) (hf : DataW.trod enc Try.prog W 0 (fun _ => true) true fuel 64 cs = some x) : ∃ q : Dop, cs = opL q ∧ TbD q ∧ q.t.length ≤ 140737488355328 := by
  obtain ⟨xs, n, _, hxx, _, hx, hall⟩ := DataW.trod_struct Try.underlying64 hf
  have hx' : xs.length = 3 := hx
  have hc : Try.prog.cellsOf 3 = 1 := by kernel_rfl
  have hc1 : Try.prog.cellsOf 62 = 1 := by kernel_rfl
  have hc2 : Try.prog.cellsOf 9 = 1 := by kernel_rfl
  have j0 : DataW.trod enc Try.prog W 0 (fun _ => true) true n 62 ((cs.drop 0).take (Try.prog.cellsOf 62)) = xs[0]? := hall 0 _ rfl
  have j1 : DataW.trod enc Try.prog W 0 (fun _ => true) true n 3 ((cs.drop 1).take (Try.prog.cellsOf 3)) = xs[1]? := hall 1 _ rfl
  have j2 : DataW.trod enc Try.prog W 0 (fun _ => true) true n 9 ((cs.drop 2).take (Try.prog.cellsOf 9)) = xs[2]? := hall 2 _ rfl
  rw [hc1] at j0
  rw [hc] at j1
  rw [hc2] at j2
  obtain ⟨k, e0⟩ := one_intO Try.underlying62 (by omega) j0
  obtain ⟨m, e1⟩ := one_intO Try.underlying3 (by omega) j1
  obtain ⟨s, e2, es⟩ := one_strO Try.underlying9 (by omega) j2
  refine ⟨⟨k, m, numsO s⟩, ?_, numsO_in s, ?_⟩
  · unfold opL
    dsimp only
    rw [str_numsO]
    apply List.ext_getElem?
    intro i
    match i with
    | 0 => exact e0
    | 1 => exact e1
    | 2 => exact e2
    | i + 3 => rw [List.getElem?_eq_none (by omega)]; rfl
  · have h1 : (xs.map fun x => x.1)[2]? = some (xs[2]'(by omega)).1 := by simp [List.getElem?_eq_getElem (show 2 < xs.length by omega)]
    have hr : reachBytes = 140737488351232 := rfl
    have := hb s.data.toList.length (by
      rw [hxx]
      simp only [DataW.weights, Try.underlying64]
      refine wE_atO (j := 2) (t := 9) rfl h1 _ ?_
      rw [es]
      simp [DataW.weights])
    simp only [numsO, List.length_map]
    omega
set_option maxRecDepth 100000 in
/-- the list of operations -/
theorem ops_of_trod {H : Type} {enc : TypeId × Value → H} {W : World} {a0 : Option Addr} {len0 cap0 : Nat} {d0 : DataW H} {p0 : List MemPlace}
    (h0 : DataW.Trod enc Try.prog W 0 (fun _ => true) true 23 (Value.slice a0 len0 cap0) d0 p0)
    {ts : List TypeId} {ds : List (DataW H)} {j : Nat} (hsz : (DataW.weightsEach Try.prog ts ds).all (· ≤ reachBytes) = true) (ht : ts[j]? = some 23) (hd : ds[j]? = some d0) :
    ∃ q : List Dop, len0 = q.length ∧ IsO W a0 q ∧ (q = [] ∨ ∃ p, a0 = some p) ∧ q.length * 32 ≤ 140737488355328 ∧ ∀ o ∈ q, TbD o ∧ o.t.length ≤ 140737488355328 := by
  have hall : ∀ y ∈ d0.weights Try.prog 23, y ≤ reachBytes := fun y hy => of_decide_eq_true (List.all_eq_true.1 hsz y (wE_atO ht hd y hy))
  obtain ⟨fuel, hf⟩ := h0
  rcases Go.Deep.open_slice Try.underlying23 hf with ⟨hcs, _⟩ | ⟨a, len, cap, m, n, D, Pl, hcs, _, hl, hm, hmm, hx, hrow⟩
  · simp [Value.cells] at hcs
    obtain ⟨rfl, rfl, rfl⟩ := hcs
    exact ⟨[], rfl, Or.inl rfl, Or.inl rfl, by simp, by simp⟩
  · simp [Value.cells] at hcs
    obtain ⟨rfl, rfl, rfl⟩ := hcs
    simp only [Prod.mk.injEq] at hx
    obtain ⟨rfl, _⟩ := hx
    have hs := sized_slice hsz ht hd Try.underlying23
    rw [show Try.prog.bytesOf 64 = 32 by kernel_rfl] at hs
    have hr : reachBytes = 140737488351232 := rfl
    simp only [List.length_map, List.length_range] at hs
    simp only [DataW.weights, Try.underlying23] at hall
    simp only [if_true] at hmm
    subst hmm
    have ce : Try.prog.cellsOf 64 = 3 := by kernel_rfl
    have each : ∀ r, r < len0 → ∃ y : Dop, (TbD y ∧ y.t.length ≤ 140737488355328) ∧ ∀ j, j < 3 → W.cell? (a.add (r * 3 + j)) = (opL y)[j]? := by
      intro r hr
      obtain ⟨cs', h1, h2⟩ := hrow r (by omega)
      rw [ce] at h1
      obtain ⟨_, hlen, hcell⟩ := World.cells?_some h1
      have hbr : ∀ y ∈ (D r).weights Try.prog 64, y ≤ reachBytes := fun y hy => hall y (List.mem_cons_of_mem _ (List.mem_append_left _ (wA_atO (by simp; exact ⟨r, hr, rfl⟩) y hy)))
      obtain ⟨y, rfl, hby⟩ := op_cells hlen hbr h2
      refine ⟨y, hby, fun j hj => ?_⟩
      have e := hcell j (by omega)
      rw [Go.Deep.add_add] at e
      rw [e, List.getElem?_eq_getElem (by simpa [opL] using hj)]
    obtain ⟨y, hy⟩ := Go.Deep.choose_lt each
    refine ⟨(List.range len0).map y, by simp, ?_, Or.inr ⟨_, rfl⟩, by simp; omega, ?_⟩
    · rcases Nat.eq_zero_or_pos len0 with h0 | h0
      · subst h0; exact Or.inl rfl
      · obtain ⟨b, off, spot⟩ := a
        have hc1 : W.cell? (Addr.add ⟨b, off, spot⟩ (0 * 3 + 0)) = some (.int .i64 (y 0).k) := (hy 0 (by omega)).2 0 (by decide)
        have hspot : spot = none := by simpa [Addr.add] using World.cell?_spot hc1
        subst hspot
        have hbl : b < W.heap.size := by
          rcases Nat.lt_or_ge b W.heap.size with h | h
          · exact h
          · rw [Addr.add_lit] at hc1
            simp [World.cell?, Array.getElem?_eq_none h] at hc1
        refine Or.inr ⟨b, off, rfl, hbl, fun r hr => ?_⟩
        simp only [List.length_map, List.length_range] at hr
        have hgr : ((List.range len0).map y).getD r opZ = y r := by simp [List.getD, hr]
        rw [hgr]
        have f : ∀ j, j < 3 → W.cell? ⟨b, off + (r * 3 + j), none⟩ = (opL (y r))[j]? := fun j hj => by have := (hy r hr).2 j hj; rwa [Addr.add_lit] at this
        exact ⟨f 0 (by decide), f 1 (by decide), f 2 (by decide)⟩
    · intro o ho
      obtain ⟨r, hr, rfl⟩ := List.mem_map.1 ho
      exact (hy r (by simpa using hr)).1
end Go.Proofs.Ytecolpnbbpbflaa
end
