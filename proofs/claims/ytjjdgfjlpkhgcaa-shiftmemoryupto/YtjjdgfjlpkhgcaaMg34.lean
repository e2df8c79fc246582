/- Layer 14, the document's Read (written by wip/tools/sgs.py). -/
import Derived.Test.YtjjdgfjlpkhgcaaMg32
import Derived.Test.YtjjdgfjlpkhgcaaMg33

namespace Go.Proofs.Ytjjdgfjlpkhgcaa
open Go.ChangeShapes Go.WideShapes Go.ChangeAt Go.RowKit
attribute [local go_sem] Oper.semAt_some

set_option maxRecDepth 100000 in
theorem info_bool : ∃ i, Try.prog.info? 4 = some i ∧ i.zero = some (.bool false) ∧ i.size = 1 ∧ i.bytes = 1 := by
  refine ⟨_, rfl, ?_, ?_, ?_⟩ <;> rfl
theorem made_one (z : Value) (hz : z.cells = #[z]) (n : Nat) : (madeCells z.cells (n * 1)).toList = List.replicate n z := by
  apply List.ext_getElem?
  intro i
  rw [hz]
  simp only [madeCells, Nat.mul_one, Array.toList_map, Array.toList_range, List.getElem?_map]
  rcases Nat.lt_or_ge i n with h | h
  · rw [List.getElem?_range h, List.getElem?_replicate, if_pos h]
    simp
    simp [Nat.mod_one]
  · rw [List.getElem?_eq_none (by simpa using h), List.getElem?_replicate, if_neg (by omega)]
    rfl
theorem make_strs (w : World) (n : Nat) (hn : n ≤ 1099511627776) : ∃ w', (Instr.makeSlice 80 (.int .i64 (n : Int)) (.int .i64 (n : Int))).run Try.prog w = .ok (.slice (some ⟨w.heap.size, 0, none⟩) n n) w' ∧
    w'.ownsRow w.heap.size 9 1 (.slice (some ⟨w.heap.size, 0, none⟩) n n) n (txsV (List.replicate n [])) ∧ Below w.heap.size w w' := by
  obtain ⟨i, hi, hz, hs, hby⟩ := info_str
  obtain ⟨w', h1, h2, h3⟩ := run_make_full (P := Try.prog) w w.heap.size 80 9 i _ 1 Try.underlying80 hi hz hs .i64 .i64 n (by rw [hby]; omega) (by unfold maxLen; omega) (Nat.le_refl _)
  rw [made_one _ rfl] at h2
  refine ⟨w', h1, ?_, (Below.refl _ w).grown h3 (Nat.le_refl _) (fun k e => by cases e)⟩
  unfold txsV
  rw [List.map_replicate]
  exact h2
theorem make_bools (w : World) (n : Nat) (hn : n ≤ 1099511627776) : ∃ w', (Instr.makeSlice 119 (.int .i64 (n : Int)) (.int .i64 (n : Int))).run Try.prog w = .ok (.slice (some ⟨w.heap.size, 0, none⟩) n n) w' ∧
    w'.ownsRow w.heap.size 4 1 (.slice (some ⟨w.heap.size, 0, none⟩) n n) n ((List.replicate n false).map Value.bool) ∧ Below w.heap.size w w' := by
  obtain ⟨i, hi, hz, hs, hby⟩ := info_bool
  obtain ⟨w', h1, h2, h3⟩ := run_make_full (P := Try.prog) w w.heap.size 119 4 i _ 1 Try.underlying119 hi hz hs .i64 .i64 n (by rw [hby]; omega) (by unfold maxLen; omega) (Nat.le_refl _)
  rw [made_one _ rfl] at h2
  refine ⟨w', h1, ?_, (Below.refl _ w).grown h3 (Nat.le_refl _) (fun k e => by cases e)⟩
  rw [List.map_replicate]
  exact h2
def bookZ : Array Value := #[.slice none 0 0, .slice none 0 0]
/-- the memory of Read -/
structure RdM (w X : World) (gR gB gp gd N M : Nat) (P : List (List Int)) (D : List Bool) : Prop where
  b : Below w.heap.size w X
  r : Cls X gR 121 bookZ
  c : Cls X gB 121 #[.slice (some ⟨gp, 0, none⟩) M M, .slice (some ⟨gd, 0, none⟩) N N]
  p : X.ownsRow w.heap.size 9 1 (.slice (some ⟨gp, 0, none⟩) M M) M (txsV P)
  d : X.ownsRow w.heap.size 4 1 (.slice (some ⟨gd, 0, none⟩) N N) N (D.map Value.bool)
  z : w.heap.size ≤ gR ∧ w.heap.size ≤ gB ∧ gR ≠ gB
theorem row_ty {X : World} {B s n : Nat} {t : TypeId} {g c m : Nat} {xs : List Value} (h : X.ownsRow B t s (.slice (some ⟨g, 0, none⟩) m c) n xs) : B ≤ g ∧ ∃ cur, X.heap[g]? = some (.cells cur t (0, 0)) := rowD_block h rfl
theorem RdM.drew {w X : World} {gR gB gp gd N M : Nat} {P : List (List Int)} {D : List Bool} (h : RdM w X gR gB gp gd N M P D) : RdM w X.drew gR gB gp gd N M P D := ⟨h.b.drew, h.r.same rfl, h.c.same rfl, rowD_drew h.p, rowD_drew h.d, h.z⟩
theorem RdM.put {w X : World} {gR gB gp gd N M : Nat} {P : List (List Int)} {D : List Bool} (h : RdM w X gR gB gp gd N M P D) (j : Nat) (t : List Int) : RdM w (X.setCell ⟨gp, j, none⟩ (.string (strOfNums t))) gR gB gp gd N M (P.set j t) D := by
  obtain ⟨hB, cur, hc⟩ := row_ty h.p
  obtain ⟨_, cur', hc'⟩ := row_ty h.d
  refine ⟨h.b.setCell (p := ⟨gp, j, none⟩) hB _, h.r.other _ _ (typeD_ne h.r hc (by decide)), h.c.other _ _ (typeD_ne h.c hc (by decide)), ?_, rowD_on h.d fun G hG => ?_, h.z⟩
  · have := rowD_set h.p j (.string (strOfNums t))
    unfold txsV at this ⊢
    rw [List.map_set]
    exact this
  · cases hG
    exact Below.heap_setCell X ⟨gp, j, none⟩ _ gd (typeD_ne hc' hc (by decide))
theorem RdM.dr {w X : World} {gR gB gp gd N M : Nat} {P : List (List Int)} {D : List Bool} (h : RdM w X gR gB gp gd N M P D) (j : Nat) (u : Bool) : RdM w (X.setCell ⟨gd, j, none⟩ (.bool u)) gR gB gp gd N M P (D.set j u) := by
  obtain ⟨_, cur, hc⟩ := row_ty h.p
  obtain ⟨hB, cur', hc'⟩ := row_ty h.d
  refine ⟨h.b.setCell (p := ⟨gd, j, none⟩) hB _, h.r.other _ _ (typeD_ne h.r hc' (by decide)), h.c.other _ _ (typeD_ne h.c hc' (by decide)), rowD_on h.p fun G hG => ?_, ?_, h.z⟩
  · cases hG
    exact Below.heap_setCell X ⟨gd, j, none⟩ _ gp (typeD_ne hc hc' (by decide))
  · have := rowD_set h.d j (.bool u)
    rw [List.map_set]
    exact this
/-- the book of the first operations, and what is laid behind it -/
def rdP (d : List Dop) (i N : Nat) : List (List Int) := bkP (dA (d.take i)) ++ List.replicate (N - frD (d.take i)) []
def rdD (d : List Dop) (i N : Nat) : List Bool := bkD (dA (d.take i)) ++ List.replicate (N - frD (d.take i)) false
theorem take_s {d : List Dop} {i : Nat} (hi : i < d.length) : dA (d.take (i + 1)) = dA (d.take i) ++ opA (d.getD i opZ) := by
  rw [List.take_add_one, List.getElem?_eq_getElem hi, Option.toList_some, dA_app]
  simp [dA, List.getD, List.getElem?_eq_getElem hi]
theorem rd_len {d : List Dop} (hv : valB d = true) {i N : Nat} (hN : frD (d.take i) ≤ N) : (rdP d i N).length = N + 1 ∧ (rdD d i N).length = N := by
  unfold rdP rdD
  rw [List.length_append, List.length_append, bkP_len, bkD_len, List.length_replicate, List.length_replicate, (fr_takeD hv i).1]
  omega
theorem set_in {α : Type} (a b : List α) (j : Nat) (x : α) (h : j < a.length) : (a ++ b).set j x = a.set j x ++ b := List.set_append_left _ _ h
theorem rd_put {d : List Dop} (hv : valB d = true) {i N : Nat} (hi : i < d.length) (hk : (d.getD i opZ).k = 2) : rdP d (i + 1) N = (rdP d i N).set (frD (d.take i)) (d.getD i opZ).t ∧ rdD d (i + 1) N = rdD d i N ∧ frD (d.take (i + 1)) = frD (d.take i) := by
  have hf := (fr_takeD hv i).1
  have hfr := frD_take d hi
  have e0 : frN (d.getD i opZ) = 0 := by unfold frN; rw [hk]; simp
  replace hfr : frD (d.take (i + 1)) = frD (d.take i) := by rw [hfr, e0]; rfl
  have hop : opA (d.getD i opZ) = (d.getD i opZ).t.map .p := by unfold opA; rw [if_neg (by rw [hk]; decide), if_pos hk]
  have hb : i = 0 ∨ (d.getD (i - 1) opZ).k = 1 := by
    cases i with
    | zero => exact .inl rfl
    | succ j =>
      right
      have h1 := val_two hv hi
      have h2 := valB_k hv _ (getD_memD (show j < d.length by omega))
      rw [hk] at h1
      simp only [Nat.add_sub_cancel]
      rcases h2 with h2 | h2 | h2
      · exact h2
      · exact absurd h2 h1.1
      · exact absurd ⟨h2, rfl⟩ h1.2
  have hlast := bk_last _ (last_keep hv (Nat.le_of_lt hi) hb)
  refine ⟨?_, ?_, hfr⟩
  · unfold rdP
    rw [take_s hi, hop, bk_put _ _ hlast, hfr, set_in _ _ _ _ (by rw [bkP_len]; omega), hf]
  · unfold rdD
    rw [take_s hi, hop, bkD_app, bkD_p, List.append_nil, hfr]
theorem rd_keep {d : List Dop} {i N : Nat} (hi : i < d.length) (hk : (d.getD i opZ).k = 1) (hN : frD (d.take (i + 1)) ≤ N) : rdP d (i + 1) N = rdP d i N ∧ rdD d (i + 1) N = rdD d i N := by
  have hfr := frD_take d hi
  have e0 : frN (d.getD i opZ) = (d.getD i opZ).n.toNat := by unfold frN; rw [hk]; simp
  rw [e0] at hfr
  unfold rdP rdD
  rw [take_s hi, opA_keep hk, bkP_rep _ (.inl rfl), bkD_app, bkD_k, List.append_assoc, List.append_assoc, List.replicate_append_replicate, List.replicate_append_replicate, show (d.getD i opZ).n.toNat + (N - frD (d.take (i + 1))) = N - frD (d.take i) by omega]
  exact ⟨rfl, rfl⟩
/-- while a drop is read: so many bytes of it are dropped -/
def rdE (d : List Dop) (i N j : Nat) : List Bool := bkD (dA (d.take i)) ++ (List.replicate j true ++ List.replicate (N - frD (d.take i) - j) false)
theorem rd_e0 (d : List Dop) (i N : Nat) : rdE d i N 0 = rdD d i N := by unfold rdE rdD; simp
theorem rd_es {d : List Dop} (hv : valB d = true) {i N j : Nat} (hj : frD (d.take i) + j < N) : rdE d i N (j + 1) = (rdE d i N j).set (frD (d.take i) + j) true := by
  have hf := (fr_takeD hv i).1
  unfold rdE
  rw [List.set_append_right _ _ (by rw [bkD_len]; omega), bkD_len, hf, show frD (d.take i) + j - frD (d.take i) = j by omega, List.set_append_right _ _ (by simp), List.length_replicate, Nat.sub_self,
    show N - frD (d.take i) - j = (N - frD (d.take i) - (j + 1)) + 1 by omega, List.replicate_succ (n := N - frD (d.take i) - (j + 1)), List.set_cons_zero, List.replicate_succ', List.append_assoc]
  rfl
theorem rd_drop {d : List Dop} {i N : Nat} (hi : i < d.length) (hk : (d.getD i opZ).k = 3) (hN : frD (d.take (i + 1)) ≤ N) : rdP d (i + 1) N = rdP d i N ∧ rdD d (i + 1) N = rdE d i N (d.getD i opZ).n.toNat := by
  have hfr := frD_take d hi
  have e0 : frN (d.getD i opZ) = (d.getD i opZ).n.toNat := by unfold frN; rw [hk]; simp
  have hop : opA (d.getD i opZ) = List.replicate (d.getD i opZ).n.toNat .d := by unfold opA; rw [if_neg (by rw [hk]; decide), if_neg (by rw [hk]; decide)]
  rw [e0] at hfr
  unfold rdP rdD rdE
  rw [take_s hi, hop, bkP_rep _ (.inr rfl), bkD_app, bkD_d, List.append_assoc, List.append_assoc, List.replicate_append_replicate, show (d.getD i opZ).n.toNat + (N - frD (d.take (i + 1))) = N - frD (d.take i) by omega, show N - frD (d.take (i + 1)) = N - frD (d.take i) - (d.getD i opZ).n.toNat by omega]
  exact ⟨rfl, rfl⟩
theorem rd_end {d : List Dop} (N : Nat) (hN : N = frD d) : rdP d d.length N = bkP (dA d) ∧ rdD d d.length N = bkD (dA d) := by
  subst hN
  unfold rdP rdD
  rw [List.take_length]
  simp
theorem rd_zero (d : List Dop) (N : Nat) : rdP d 0 N = List.replicate (N + 1) [] ∧ rdD d 0 N = List.replicate N false := by
  unfold rdP rdD
  simp [dA, bkP, bkH, bkT, bkD, frD, List.replicate_succ]
theorem bk_cells {X : World} {g : Nat} {a b : Value} (h : Cls X g 121 #[a, b]) : X.cell? ⟨g, 0, none⟩ = some a ∧ X.cell? ⟨g, 1, none⟩ = some b := ⟨h.cell 0, h.cell 1⟩
theorem book_rows {X : World} {B g s n : Nat} {cs : Array Value} {t : TypeId} {v : Value} {xs : List Value} (h : Cls X g 121 cs) (hr : X.ownsRow B t s v n xs) (ht : t ≠ 121) (a b : Value) : ((X.setCell ⟨g, 0, none⟩ a).setCell ⟨g, 1, none⟩ b).ownsRow B t s v n xs := rowD_on hr fun G hG => by
  obtain ⟨_, cur, hc⟩ := rowD_block hr hG
  have hne := typeD_ne hc h ht
  exact (Below.heap_setCell _ ⟨g, 1, none⟩ b G hne).trans (Below.heap_setCell X ⟨g, 0, none⟩ a G hne)
theorem rd_ret {w X : World} {gR gB gp gd N M : Nat} {P : List (List Int)} {D : List Bool} (h : RdM w X gR gB gp gd N M P D) : ((X.setCell ⟨gR, 0, none⟩ (.slice (some ⟨gp, 0, none⟩) M M)).setCell ⟨gR, 1, none⟩ (.slice (some ⟨gd, 0, none⟩) N N)).ownsRow w.heap.size 9 1 (.slice (some ⟨gp, 0, none⟩) M M) M (txsV P) ∧
    ((X.setCell ⟨gR, 0, none⟩ (.slice (some ⟨gp, 0, none⟩) M M)).setCell ⟨gR, 1, none⟩ (.slice (some ⟨gd, 0, none⟩) N N)).ownsRow w.heap.size 4 1 (.slice (some ⟨gd, 0, none⟩) N N) N (D.map Value.bool) ∧ Below w.heap.size w ((X.setCell ⟨gR, 0, none⟩ (.slice (some ⟨gp, 0, none⟩) M M)).setCell ⟨gR, 1, none⟩ (.slice (some ⟨gd, 0, none⟩) N N)) :=
  ⟨book_rows h.r h.p (by decide) _ _, book_rows h.r h.d (by decide) _ _, (h.b.setCell (p := ⟨gR, 0, none⟩) h.z.1 _).setCell (p := ⟨gR, 1, none⟩) h.z.1 _⟩
theorem int_nat {n : Int} (h : 1 ≤ n) : n = (n.toNat : Int) := by omega
theorem rd_ms {j m : Nat} (h : j < m) : m - (j + 1) < m - j := by omega
theorem rd_fm {f N M : Nat} (h : M = N + 1) (hf : f ≤ N) : f < M := by omega
theorem rd_fn {f m F' N j FJ g : Nat} (h1 : F' = f + m) (h2 : F' ≤ N) (h3 : j < m) (h4 : N ≤ 268435456) (h5 : FJ = f + j) (h6 : f = g) : f + j < N ∧ f + j ≤ 268435456 ∧ FJ < N ∧ j ≤ 268435456 ∧ g + j ≤ N := by omega
theorem rdE_len {d : List Dop} {i N j : Nat} (h : frD (d.take i) ≤ N → (rdP d i N).length = N + 1 ∧ (rdD d i N).length = N) (hj : frD (d.take i) + j ≤ N) : (rdE d i N j).length = N := by
  have h1 := (h (by omega)).2
  unfold rdD at h1
  unfold rdE
  simp only [List.length_append, List.length_replicate] at h1 ⊢
  omega
theorem row_at {X : World} {B n g c : Nat} {t : TypeId} {xs : List Value} (h : X.ownsRow B t 1 (.slice (some ⟨g, 0, none⟩) n c) n xs) {j : Nat} (hj : j < xs.length) : ∃ u, X.cell? ⟨g, j, none⟩ = some u ∧ X.frozen? ⟨g, j, none⟩ = false := ⟨_, rowD_cell h (List.getElem?_eq_getElem hj)⟩
set_option maxRecDepth 100000 in
set_option maxHeartbeats 8000000 in
theorem RRead_at (a : Option Addr) (c : Nat) (d : List Dop) (w : World) (h : IsO w a d) (hl : d.length ≤ 4611686018427387904) (hv : valB d = true) :
    Calls Try.prog 84 #[.slice a d.length c] w fun y w' => ∃ vP vD, y = .returned (.agg #[vP, vD]) ∧ w'.ownsRow w.heap.size 9 1 vP (frD d + 1) (txsV (bkP (dA d))) ∧ w'.ownsRow w.heap.size 4 1 vD (frD d) ((bkD (dA d)).map Value.bool) ∧ Below w.heap.size w w' := by
  have hnn := (valB_nn hv).2
  have HO := hide fun (X : World) (hx : Below w.heap.size w X) => h.below hx (Nat.le_refl _)
  have HLN := hide fun (X : World) (hX : Below w.heap.size w X) => lens14_at a c d X (h.below hX (Nat.le_refl _)) hl (val_PlO hv) (by omega) (by omega)
  have HPO := hide (fun i (hi : i < d.length) => val_PlO hv _ (getD_memD hi))
  have HFT := hide (fun i (hi : i < d.length) => frD_take d hi)
  have HBD := hide (fun i => frD_le' d i)
  have HZP := hide (rd_zero d)
  have HEP := hide (fun N => rd_end (d := d) N)
  have HPU := hide (fun i N (hi : i < d.length) => rd_put hv (N := N) hi)
  have HKE := hide (fun i N (hi : i < d.length) => rd_keep (N := N) hi)
  have HDR := hide (fun i N (hi : i < d.length) => rd_drop (N := N) hi)
  have HLE := hide (fun i N => rd_len hv (i := i) (N := N))
  have HES := hide (fun i N j => rd_es hv (i := i) (N := N) (j := j))
  obtain ⟨N, hN⟩ : ∃ N, N = frD d := ⟨_, rfl⟩
  rw [← hN] at HLN hnn HBD
  rw [← hN]
  have HN := hide hN
  have hNb : N ≤ 268435456 := hnn.1
  have b0 := (Below.refl w.heap.size w).alloc (Nat.le_refl _) (.cells bookZ 121)
  have k0 := Cls.new w 121 bookZ
  clear h hnn hN
  generalize toD d = td at HLN
  go_enter Try.func84, Try.ntmps84
  go_upto_region 1 with fail
  rw [show (#[Value.slice none 0 0, Value.slice none 0 0] : Array Value) = bookZ from rfl]
  generalize hgR : w.heap.size = gR at k0 ⊢
  have HZR := hide (Nat.le_of_eq hgR)
  have HGR := hide hgR
  have HB0 := hide b0
  have HK0 := hide k0
  rw [← hgR]
  clear b0 k0 hgR
  generalize w.alloc (.cells bookZ 121) = w0 at *
  have HL0 := hide (unhide HLN w0 (unhide HB0))
  go_wp2_with fail
  refine (unhide HL0).mono ?_
  rintro y w1 ⟨rfl, x1⟩
  dsimp only
  have HB1 := hide ((unhide HB0).trans (x1.mono (unhide HB0).size))
  have HK1 := hide ((unhide HK0).below x1 (unhide HK0).lt)
  clear HLN HL0 HB0 HK0 x1
  obtain ⟨M, hM⟩ : ∃ M, M = N + 1 := ⟨_, rfl⟩
  have wn : wrap64 ((N : Int) + 1) = (M : Int) := by rw [wrapD _ (by omega) (by omega)]; omega
  have wn' : IntKind.i64.wrap ((N : Int) + 1) = (M : Int) := by rw [IntKind.wrap_i64]; omega
  have hMb : M ≤ 1099511627776 := by omega
  have HMN := hide hM
  clear hM
  go_upto_region 2 with fail
  go_cut [5] (fun v wz => ∃ gB gp gd, v = .pointer (some ⟨gB, 0, none⟩) ∧ Hid (RdM w wz gR gB gp gd N M (List.replicate M []) (List.replicate N false)))
  case first =>
    refine regionL (S := fun _ => True) (fun _ => false) (by kernel_rfl) ?_
    have D0 : Below w.heap.size w w1.drew := (unhide HB1).drew
    have R0 : Cls w1.drew gR 121 bookZ := (unhide HK1).same rfl
    have hnb1 := hMb
    have hnb0 : N ≤ 1099511627776 := by omega
    generalize w1.drew = y0 at *
    refine anyL_take (i := 0) (v := ?vrd0) rfl (by kernel_rfl) (by kernel_rfl) (by kernel_rfl) (by kernel_rfl) (fun _ _ _ h => h) (Or.inl ⟨by rfl, ?hrd0⟩) (trivial) ?_
    case hrd0 => (intro w hSw; (try dsimp only at hSw); go_simp) <;> with_reducible rfl
    simp only [Act.put, List.getElem_toArray, List.getElem_cons_zero, List.setIfInBounds_toArray, List.set_cons_zero, List.set_cons_succ]
    refine anyL_take (i := 1) (v := ?vrd1) rfl (by kernel_rfl) (by kernel_rfl) (by kernel_rfl) (by kernel_rfl) (fun _ _ _ h => h) (Or.inl ⟨by rfl, ?hrd1⟩) (trivial) ?_
    case hrd1 => (intro w hSw; (try dsimp only at hSw); go_simp) <;> with_reducible rfl
    simp only [Act.put, List.getElem_toArray, List.getElem_cons_zero, List.getElem_cons_succ, List.setIfInBounds_toArray, List.set_cons_zero, List.set_cons_succ]
    refine anyL_take (i := 3) (v := ?vrd2) rfl (by kernel_rfl) (by kernel_rfl) (by kernel_rfl) (by kernel_rfl) (fun _ _ _ h => h) (Or.inl ⟨by rfl, ?hrd2⟩) (trivial) ?_
    case hrd2 => (intro w hSw; (try dsimp only at hSw); go_simp) <;> with_reducible rfl
    simp only [Act.put, List.getElem_toArray, List.getElem_cons_zero, List.getElem_cons_succ, List.setIfInBounds_toArray, List.set_cons_zero, List.set_cons_succ]
    refine anyL_ready (rs := [2, 4, 6]) (by kernel_rfl) (by simp) ?_
    refine AllL.cons rfl (fun K hK => ?_) (AllL.cons rfl (fun K hK => ?_) (AllL.cons rfl (fun K hK => ?_) AllL.nil))
    · obtain ⟨z1, rM1, o1, x1⟩ := make_strs y0 M hnb1
      have b1 := Nat.le_refl y0.heap.size
      have D1 := D0.trans (x1.mono D0.size)
      have R1 := R0.below x1 R0.lt
      have o1' : z1.ownsRow w.heap.size 9 1 _ _ _ := ⟨o1.1, o1.2.imp id (fun ⟨g, cap, cur, h1, h2, h3⟩ => ⟨g, cap, cur, h1, Nat.le_trans D0.size h2, h3⟩)⟩
      go_simp
      refine unhide hK _ _ (fun _ => trivial) ?_
      clear hK K rM1 x1 o1 b1
      generalize y0.heap.size = gp at o1' ⊢
      refine anyL_ready (rs := [4, 6]) (by kernel_rfl) (by simp) ?_
      refine AllL.cons rfl (fun K hK => ?_) (AllL.cons rfl (fun K hK => ?_) AllL.nil)
      · obtain ⟨z2, rM2, o2, x2⟩ := make_bools z1 N hnb0
        have b2 := Nat.le_refl z1.heap.size
        have D2 := D1.trans (x2.mono D1.size)
        have R2 := R1.below x2 R1.lt
        have P2 := rowD_below o1' x2 (Nat.le_refl _)
        have o2' : z2.ownsRow w.heap.size 4 1 _ _ _ := ⟨o2.1, o2.2.imp id (fun ⟨g, cap, cur, h1, h2, h3⟩ => ⟨g, cap, cur, h1, Nat.le_trans D1.size h2, h3⟩)⟩
        go_simp
        refine unhide hK _ _ (fun _ => trivial) ?_
        clear hK K rM2 x2 o2 b2
        generalize z1.heap.size = gd at o2' ⊢
        refine anyL_take (i := 5) (v := ?vrd3) rfl (by kernel_rfl) (by kernel_rfl) (by kernel_rfl) (by kernel_rfl) (fun _ _ _ h => h) (Or.inl ⟨by rfl, ?hrd3⟩) (trivial) ?_
        case hrd3 => (intro w hSw; (try dsimp only at hSw); go_simp) <;> with_reducible rfl
        simp only [Act.put, List.getElem_toArray, List.getElem_cons_zero, List.getElem_cons_succ, List.setIfInBounds_toArray, List.set_cons_zero, List.set_cons_succ]
        refine anyL_ready (rs := [6]) (by kernel_rfl) (by simp) ?_
        refine AllL.cons rfl (fun K hK => ?_) AllL.nil
        have x3 := (Below.refl z2.heap.size z2).alloc (Nat.le_refl _) (.cells #[.slice none 0 0, .slice none 0 0] 121)
        have B3 := Cls.new z2 121 #[.slice none 0 0, .slice none 0 0]
        have hne3 : gR ≠ z2.heap.size := Nat.ne_of_lt R2.lt
        have zb : w.heap.size ≤ z2.heap.size := D2.size
        have D3 := D2.trans (x3.mono D2.size)
        have R3 := R2.below x3 R2.lt
        have P3 := rowD_below P2 x3 (Nat.le_refl _)
        have E3 := rowD_below o2' x3 (Nat.le_refl _)
        go_simp
        refine unhide hK _ _ (fun _ => trivial) ?_
        clear hK K x3
        generalize z2.alloc (.cells #[.slice none 0 0, .slice none 0 0] 121) = z3 at *
        generalize z2.heap.size = gB at B3 hne3 zb ⊢
        refine anyL_ready (rs := [7]) (by kernel_rfl) (by simp) ?_
        refine AllL.cons rfl (fun K hK => ?_) AllL.nil
        obtain ⟨p0, p1⟩ := bk_cells B3
        have f0 := B3.frozen 0
        have f1 := B3.frozen 1
        have B9 := (B3.set 0 (.slice (some ⟨gp, 0, none⟩) M M)).set 1 (.slice (some ⟨gd, 0, none⟩) N N)
        have R9 := (R3.other ⟨gB, 0, none⟩ (.slice (some ⟨gp, 0, none⟩) M M) hne3).other ⟨gB, 1, none⟩ (.slice (some ⟨gd, 0, none⟩) N N) hne3
        have P9 := book_rows B3 P3 (by decide) (.slice (some ⟨gp, 0, none⟩) M M) (.slice (some ⟨gd, 0, none⟩) N N)
        have E9 := book_rows B3 E3 (by decide) (.slice (some ⟨gp, 0, none⟩) M M) (.slice (some ⟨gd, 0, none⟩) N N)
        have D9 := (D3.setCell (p := ⟨gB, 0, none⟩) zb (.slice (some ⟨gp, 0, none⟩) M M)).setCell (p := ⟨gB, 1, none⟩) zb (.slice (some ⟨gd, 0, none⟩) N N)
        have HM := hide (RdM.mk D9 R9 B9 P9 E9 ⟨unhide HZR, zb, hne3⟩)
        go_simp
        refine unhide hK _ _ (fun _ => trivial) ?_
        clear hK K P9 E9 D9 R9 B9
        refine anyL_done (by kernel_rfl) ?_ _
        go_wp2_with fail
        go_meet
        case rel => exact ⟨gB, gp, gd, rfl, HM⟩
      · have x5 := (Below.refl z1.heap.size z1).alloc (Nat.le_refl _) (.cells #[.slice none 0 0, .slice none 0 0] 121)
        have B5 := Cls.new z1 121 #[.slice none 0 0, .slice none 0 0]
        have hne5 : gR ≠ z1.heap.size := Nat.ne_of_lt R1.lt
        have zb : w.heap.size ≤ z1.heap.size := D1.size
        have D5 := D1.trans (x5.mono D1.size)
        have R5 := R1.below x5 R1.lt
        have P5 := rowD_below o1' x5 (Nat.le_refl _)
        go_simp
        refine unhide hK _ _ (fun _ => trivial) ?_
        clear hK K x5
        generalize z1.alloc (.cells #[.slice none 0 0, .slice none 0 0] 121) = z5 at *
        generalize z1.heap.size = gB at B5 hne5 zb ⊢
        refine anyL_ready (rs := [4]) (by kernel_rfl) (by simp) ?_
        refine AllL.cons rfl (fun K hK => ?_) AllL.nil
        obtain ⟨z6, rM6, o6, x6⟩ := make_bools z5 N hnb0
        have b6 := Nat.le_refl z5.heap.size
        have D6 := D5.trans (x6.mono D5.size)
        have R6 := R5.below x6 R5.lt
        have P6 := rowD_below P5 x6 (Nat.le_refl _)
        have B6 := B5.below x6 B5.lt
        have o6' : z6.ownsRow w.heap.size 4 1 _ _ _ := ⟨o6.1, o6.2.imp id (fun ⟨g, cap, cur, h1, h2, h3⟩ => ⟨g, cap, cur, h1, Nat.le_trans D5.size h2, h3⟩)⟩
        go_simp
        refine unhide hK _ _ (fun _ => trivial) ?_
        clear hK K rM6 x6 o6 b6
        generalize z5.heap.size = gd at o6' ⊢
        refine anyL_take (i := 5) (v := ?vrd4) rfl (by kernel_rfl) (by kernel_rfl) (by kernel_rfl) (by kernel_rfl) (fun _ _ _ h => h) (Or.inl ⟨by rfl, ?hrd4⟩) (trivial) ?_
        case hrd4 => (intro w hSw; (try dsimp only at hSw); go_simp) <;> with_reducible rfl
        simp only [Act.put, List.getElem_toArray, List.getElem_cons_zero, List.getElem_cons_succ, List.setIfInBounds_toArray, List.set_cons_zero, List.set_cons_succ]
        refine anyL_ready (rs := [7]) (by kernel_rfl) (by simp) ?_
        refine AllL.cons rfl (fun K hK => ?_) AllL.nil
        obtain ⟨p0, p1⟩ := bk_cells B6
        have f0 := B6.frozen 0
        have f1 := B6.frozen 1
        have B9 := (B6.set 0 (.slice (some ⟨gp, 0, none⟩) M M)).set 1 (.slice (some ⟨gd, 0, none⟩) N N)
        have R9 := (R6.other ⟨gB, 0, none⟩ (.slice (some ⟨gp, 0, none⟩) M M) hne5).other ⟨gB, 1, none⟩ (.slice (some ⟨gd, 0, none⟩) N N) hne5
        have P9 := book_rows B6 P6 (by decide) (.slice (some ⟨gp, 0, none⟩) M M) (.slice (some ⟨gd, 0, none⟩) N N)
        have E9 := book_rows B6 o6' (by decide) (.slice (some ⟨gp, 0, none⟩) M M) (.slice (some ⟨gd, 0, none⟩) N N)
        have D9 := (D6.setCell (p := ⟨gB, 0, none⟩) zb (.slice (some ⟨gp, 0, none⟩) M M)).setCell (p := ⟨gB, 1, none⟩) zb (.slice (some ⟨gd, 0, none⟩) N N)
        have HM := hide (RdM.mk D9 R9 B9 P9 E9 ⟨unhide HZR, zb, hne5⟩)
        go_simp
        refine unhide hK _ _ (fun _ => trivial) ?_
        clear hK K P9 E9 D9 R9 B9
        refine anyL_done (by kernel_rfl) ?_ _
        go_wp2_with fail
        go_meet
        case rel => exact ⟨gB, gp, gd, rfl, HM⟩
    · obtain ⟨z8, rM8, o8, x8⟩ := make_bools y0 N hnb0
      have b8 := Nat.le_refl y0.heap.size
      have D8 := D0.trans (x8.mono D0.size)
      have R8 := R0.below x8 R0.lt
      have o8' : z8.ownsRow w.heap.size 4 1 _ _ _ := ⟨o8.1, o8.2.imp id (fun ⟨g, cap, cur, h1, h2, h3⟩ => ⟨g, cap, cur, h1, Nat.le_trans D0.size h2, h3⟩)⟩
      go_simp
      refine unhide hK _ _ (fun _ => trivial) ?_
      clear hK K rM8 x8 o8 b8
      generalize y0.heap.size = gd at o8' ⊢
      refine anyL_ready (rs := [2, 6]) (by kernel_rfl) (by simp) ?_
      refine AllL.cons rfl (fun K hK => ?_) (AllL.cons rfl (fun K hK => ?_) AllL.nil)
      · obtain ⟨z9, rM9, o9, x9⟩ := make_strs z8 M hnb1
        have b9 := Nat.le_refl z8.heap.size
        have D9 := D8.trans (x9.mono D8.size)
        have R9 := R8.below x9 R8.lt
        have E9 := rowD_below o8' x9 (Nat.le_refl _)
        have o9' : z9.ownsRow w.heap.size 9 1 _ _ _ := ⟨o9.1, o9.2.imp id (fun ⟨g, cap, cur, h1, h2, h3⟩ => ⟨g, cap, cur, h1, Nat.le_trans D8.size h2, h3⟩)⟩
        go_simp
        refine unhide hK _ _ (fun _ => trivial) ?_
        clear hK K rM9 x9 o9 b9
        generalize z8.heap.size = gp at o9' ⊢
        refine anyL_take (i := 5) (v := ?vrd5) rfl (by kernel_rfl) (by kernel_rfl) (by kernel_rfl) (by kernel_rfl) (fun _ _ _ h => h) (Or.inl ⟨by rfl, ?hrd5⟩) (trivial) ?_
        case hrd5 => (intro w hSw; (try dsimp only at hSw); go_simp) <;> with_reducible rfl
        simp only [Act.put, List.getElem_toArray, List.getElem_cons_zero, List.getElem_cons_succ, List.setIfInBounds_toArray, List.set_cons_zero, List.set_cons_succ]
        refine anyL_ready (rs := [6]) (by kernel_rfl) (by simp) ?_
        refine AllL.cons rfl (fun K hK => ?_) AllL.nil
        have x10 := (Below.refl z9.heap.size z9).alloc (Nat.le_refl _) (.cells #[.slice none 0 0, .slice none 0 0] 121)
        have B10 := Cls.new z9 121 #[.slice none 0 0, .slice none 0 0]
        have hne10 : gR ≠ z9.heap.size := Nat.ne_of_lt R9.lt
        have zb : w.heap.size ≤ z9.heap.size := D9.size
        have D10 := D9.trans (x10.mono D9.size)
        have R10 := R9.below x10 R9.lt
        have P10 := rowD_below o9' x10 (Nat.le_refl _)
        have E10 := rowD_below E9 x10 (Nat.le_refl _)
        go_simp
        refine unhide hK _ _ (fun _ => trivial) ?_
        clear hK K x10
        generalize z9.alloc (.cells #[.slice none 0 0, .slice none 0 0] 121) = z10 at *
        generalize z9.heap.size = gB at B10 hne10 zb ⊢
        refine anyL_ready (rs := [7]) (by kernel_rfl) (by simp) ?_
        refine AllL.cons rfl (fun K hK => ?_) AllL.nil
        obtain ⟨p0, p1⟩ := bk_cells B10
        have f0 := B10.frozen 0
        have f1 := B10.frozen 1
        have B9 := (B10.set 0 (.slice (some ⟨gp, 0, none⟩) M M)).set 1 (.slice (some ⟨gd, 0, none⟩) N N)
        have R9 := (R10.other ⟨gB, 0, none⟩ (.slice (some ⟨gp, 0, none⟩) M M) hne10).other ⟨gB, 1, none⟩ (.slice (some ⟨gd, 0, none⟩) N N) hne10
        have P9 := book_rows B10 P10 (by decide) (.slice (some ⟨gp, 0, none⟩) M M) (.slice (some ⟨gd, 0, none⟩) N N)
        have E9 := book_rows B10 E10 (by decide) (.slice (some ⟨gp, 0, none⟩) M M) (.slice (some ⟨gd, 0, none⟩) N N)
        have D9 := (D10.setCell (p := ⟨gB, 0, none⟩) zb (.slice (some ⟨gp, 0, none⟩) M M)).setCell (p := ⟨gB, 1, none⟩) zb (.slice (some ⟨gd, 0, none⟩) N N)
        have HM := hide (RdM.mk D9 R9 B9 P9 E9 ⟨unhide HZR, zb, hne10⟩)
        go_simp
        refine unhide hK _ _ (fun _ => trivial) ?_
        clear hK K P9 E9 D9 R9 B9
        refine anyL_done (by kernel_rfl) ?_ _
        go_wp2_with fail
        go_meet
        case rel => exact ⟨gB, gp, gd, rfl, HM⟩
      · have x12 := (Below.refl z8.heap.size z8).alloc (Nat.le_refl _) (.cells #[.slice none 0 0, .slice none 0 0] 121)
        have B12 := Cls.new z8 121 #[.slice none 0 0, .slice none 0 0]
        have hne12 : gR ≠ z8.heap.size := Nat.ne_of_lt R8.lt
        have zb : w.heap.size ≤ z8.heap.size := D8.size
        have D12 := D8.trans (x12.mono D8.size)
        have R12 := R8.below x12 R8.lt
        have E12 := rowD_below o8' x12 (Nat.le_refl _)
        go_simp
        refine unhide hK _ _ (fun _ => trivial) ?_
        clear hK K x12
        generalize z8.alloc (.cells #[.slice none 0 0, .slice none 0 0] 121) = z12 at *
        generalize z8.heap.size = gB at B12 hne12 zb ⊢
        refine anyL_ready (rs := [2]) (by kernel_rfl) (by simp) ?_
        refine AllL.cons rfl (fun K hK => ?_) AllL.nil
        obtain ⟨z13, rM13, o13, x13⟩ := make_strs z12 M hnb1
        have b13 := Nat.le_refl z12.heap.size
        have D13 := D12.trans (x13.mono D12.size)
        have R13 := R12.below x13 R12.lt
        have E13 := rowD_below E12 x13 (Nat.le_refl _)
        have B13 := B12.below x13 B12.lt
        have o13' : z13.ownsRow w.heap.size 9 1 _ _ _ := ⟨o13.1, o13.2.imp id (fun ⟨g, cap, cur, h1, h2, h3⟩ => ⟨g, cap, cur, h1, Nat.le_trans D12.size h2, h3⟩)⟩
        go_simp
        refine unhide hK _ _ (fun _ => trivial) ?_
        clear hK K rM13 x13 o13 b13
        generalize z12.heap.size = gp at o13' ⊢
        refine anyL_take (i := 5) (v := ?vrd6) rfl (by kernel_rfl) (by kernel_rfl) (by kernel_rfl) (by kernel_rfl) (fun _ _ _ h => h) (Or.inl ⟨by rfl, ?hrd6⟩) (trivial) ?_
        case hrd6 => (intro w hSw; (try dsimp only at hSw); go_simp) <;> with_reducible rfl
        simp only [Act.put, List.getElem_toArray, List.getElem_cons_zero, List.getElem_cons_succ, List.setIfInBounds_toArray, List.set_cons_zero, List.set_cons_succ]
        refine anyL_ready (rs := [7]) (by kernel_rfl) (by simp) ?_
        refine AllL.cons rfl (fun K hK => ?_) AllL.nil
        obtain ⟨p0, p1⟩ := bk_cells B13
        have f0 := B13.frozen 0
        have f1 := B13.frozen 1
        have B9 := (B13.set 0 (.slice (some ⟨gp, 0, none⟩) M M)).set 1 (.slice (some ⟨gd, 0, none⟩) N N)
        have R9 := (R13.other ⟨gB, 0, none⟩ (.slice (some ⟨gp, 0, none⟩) M M) hne12).other ⟨gB, 1, none⟩ (.slice (some ⟨gd, 0, none⟩) N N) hne12
        have P9 := book_rows B13 o13' (by decide) (.slice (some ⟨gp, 0, none⟩) M M) (.slice (some ⟨gd, 0, none⟩) N N)
        have E9 := book_rows B13 E13 (by decide) (.slice (some ⟨gp, 0, none⟩) M M) (.slice (some ⟨gd, 0, none⟩) N N)
        have D9 := (D13.setCell (p := ⟨gB, 0, none⟩) zb (.slice (some ⟨gp, 0, none⟩) M M)).setCell (p := ⟨gB, 1, none⟩) zb (.slice (some ⟨gd, 0, none⟩) N N)
        have HM := hide (RdM.mk D9 R9 B9 P9 E9 ⟨unhide HZR, zb, hne12⟩)
        go_simp
        refine unhide hK _ _ (fun _ => trivial) ?_
        clear hK K P9 E9 D9 R9 B9
        refine anyL_done (by kernel_rfl) ?_ _
        go_wp2_with fail
        go_meet
        case rel => exact ⟨gB, gp, gd, rfl, HM⟩
    · have x15 := (Below.refl y0.heap.size y0).alloc (Nat.le_refl _) (.cells #[.slice none 0 0, .slice none 0 0] 121)
      have B15 := Cls.new y0 121 #[.slice none 0 0, .slice none 0 0]
      have hne15 : gR ≠ y0.heap.size := Nat.ne_of_lt R0.lt
      have zb : w.heap.size ≤ y0.heap.size := D0.size
      have D15 := D0.trans (x15.mono D0.size)
      have R15 := R0.below x15 R0.lt
      go_simp
      refine unhide hK _ _ (fun _ => trivial) ?_
      clear hK K x15
      generalize y0.alloc (.cells #[.slice none 0 0, .slice none 0 0] 121) = z15 at *
      generalize y0.heap.size = gB at B15 hne15 zb ⊢
      refine anyL_ready (rs := [2, 4]) (by kernel_rfl) (by simp) ?_
      refine AllL.cons rfl (fun K hK => ?_) (AllL.cons rfl (fun K hK => ?_) AllL.nil)
      · obtain ⟨z16, rM16, o16, x16⟩ := make_strs z15 M hnb1
        have b16 := Nat.le_refl z15.heap.size
        have D16 := D15.trans (x16.mono D15.size)
        have R16 := R15.below x16 R15.lt
        have B16 := B15.below x16 B15.lt
        have o16' : z16.ownsRow w.heap.size 9 1 _ _ _ := ⟨o16.1, o16.2.imp id (fun ⟨g, cap, cur, h1, h2, h3⟩ => ⟨g, cap, cur, h1, Nat.le_trans D15.size h2, h3⟩)⟩
        go_simp
        refine unhide hK _ _ (fun _ => trivial) ?_
        clear hK K rM16 x16 o16 b16
        generalize z15.heap.size = gp at o16' ⊢
        refine anyL_ready (rs := [4]) (by kernel_rfl) (by simp) ?_
        refine AllL.cons rfl (fun K hK => ?_) AllL.nil
        obtain ⟨z17, rM17, o17, x17⟩ := make_bools z16 N hnb0
        have b17 := Nat.le_refl z16.heap.size
        have D17 := D16.trans (x17.mono D16.size)
        have R17 := R16.below x17 R16.lt
        have P17 := rowD_below o16' x17 (Nat.le_refl _)
        have B17 := B16.below x17 B16.lt
        have o17' : z17.ownsRow w.heap.size 4 1 _ _ _ := ⟨o17.1, o17.2.imp id (fun ⟨g, cap, cur, h1, h2, h3⟩ => ⟨g, cap, cur, h1, Nat.le_trans D16.size h2, h3⟩)⟩
        go_simp
        refine unhide hK _ _ (fun _ => trivial) ?_
        clear hK K rM17 x17 o17 b17
        generalize z16.heap.size = gd at o17' ⊢
        refine anyL_take (i := 5) (v := ?vrd7) rfl (by kernel_rfl) (by kernel_rfl) (by kernel_rfl) (by kernel_rfl) (fun _ _ _ h => h) (Or.inl ⟨by rfl, ?hrd7⟩) (trivial) ?_
        case hrd7 => (intro w hSw; (try dsimp only at hSw); go_simp) <;> with_reducible rfl
        simp only [Act.put, List.getElem_toArray, List.getElem_cons_zero, List.getElem_cons_succ, List.setIfInBounds_toArray, List.set_cons_zero, List.set_cons_succ]
        refine anyL_ready (rs := [7]) (by kernel_rfl) (by simp) ?_
        refine AllL.cons rfl (fun K hK => ?_) AllL.nil
        obtain ⟨p0, p1⟩ := bk_cells B17
        have f0 := B17.frozen 0
        have f1 := B17.frozen 1
        have B9 := (B17.set 0 (.slice (some ⟨gp, 0, none⟩) M M)).set 1 (.slice (some ⟨gd, 0, none⟩) N N)
        have R9 := (R17.other ⟨gB, 0, none⟩ (.slice (some ⟨gp, 0, none⟩) M M) hne15).other ⟨gB, 1, none⟩ (.slice (some ⟨gd, 0, none⟩) N N) hne15
        have P9 := book_rows B17 P17 (by decide) (.slice (some ⟨gp, 0, none⟩) M M) (.slice (some ⟨gd, 0, none⟩) N N)
        have E9 := book_rows B17 o17' (by decide) (.slice (some ⟨gp, 0, none⟩) M M) (.slice (some ⟨gd, 0, none⟩) N N)
        have D9 := (D17.setCell (p := ⟨gB, 0, none⟩) zb (.slice (some ⟨gp, 0, none⟩) M M)).setCell (p := ⟨gB, 1, none⟩) zb (.slice (some ⟨gd, 0, none⟩) N N)
        have HM := hide (RdM.mk D9 R9 B9 P9 E9 ⟨unhide HZR, zb, hne15⟩)
        go_simp
        refine unhide hK _ _ (fun _ => trivial) ?_
        clear hK K P9 E9 D9 R9 B9
        refine anyL_done (by kernel_rfl) ?_ _
        go_wp2_with fail
        go_meet
        case rel => exact ⟨gB, gp, gd, rfl, HM⟩
      · obtain ⟨z19, rM19, o19, x19⟩ := make_bools z15 N hnb0
        have b19 := Nat.le_refl z15.heap.size
        have D19 := D15.trans (x19.mono D15.size)
        have R19 := R15.below x19 R15.lt
        have B19 := B15.below x19 B15.lt
        have o19' : z19.ownsRow w.heap.size 4 1 _ _ _ := ⟨o19.1, o19.2.imp id (fun ⟨g, cap, cur, h1, h2, h3⟩ => ⟨g, cap, cur, h1, Nat.le_trans D15.size h2, h3⟩)⟩
        go_simp
        refine unhide hK _ _ (fun _ => trivial) ?_
        clear hK K rM19 x19 o19 b19
        generalize z15.heap.size = gd at o19' ⊢
        refine anyL_ready (rs := [2]) (by kernel_rfl) (by simp) ?_
        refine AllL.cons rfl (fun K hK => ?_) AllL.nil
        obtain ⟨z20, rM20, o20, x20⟩ := make_strs z19 M hnb1
        have b20 := Nat.le_refl z19.heap.size
        have D20 := D19.trans (x20.mono D19.size)
        have R20 := R19.below x20 R19.lt
        have E20 := rowD_below o19' x20 (Nat.le_refl _)
        have B20 := B19.below x20 B19.lt
        have o20' : z20.ownsRow w.heap.size 9 1 _ _ _ := ⟨o20.1, o20.2.imp id (fun ⟨g, cap, cur, h1, h2, h3⟩ => ⟨g, cap, cur, h1, Nat.le_trans D19.size h2, h3⟩)⟩
        go_simp
        refine unhide hK _ _ (fun _ => trivial) ?_
        clear hK K rM20 x20 o20 b20
        generalize z19.heap.size = gp at o20' ⊢
        refine anyL_take (i := 5) (v := ?vrd8) rfl (by kernel_rfl) (by kernel_rfl) (by kernel_rfl) (by kernel_rfl) (fun _ _ _ h => h) (Or.inl ⟨by rfl, ?hrd8⟩) (trivial) ?_
        case hrd8 => (intro w hSw; (try dsimp only at hSw); go_simp) <;> with_reducible rfl
        simp only [Act.put, List.getElem_toArray, List.getElem_cons_zero, List.getElem_cons_succ, List.setIfInBounds_toArray, List.set_cons_zero, List.set_cons_succ]
        refine anyL_ready (rs := [7]) (by kernel_rfl) (by simp) ?_
        refine AllL.cons rfl (fun K hK => ?_) AllL.nil
        obtain ⟨p0, p1⟩ := bk_cells B20
        have f0 := B20.frozen 0
        have f1 := B20.frozen 1
        have B9 := (B20.set 0 (.slice (some ⟨gp, 0, none⟩) M M)).set 1 (.slice (some ⟨gd, 0, none⟩) N N)
        have R9 := (R20.other ⟨gB, 0, none⟩ (.slice (some ⟨gp, 0, none⟩) M M) hne15).other ⟨gB, 1, none⟩ (.slice (some ⟨gd, 0, none⟩) N N) hne15
        have P9 := book_rows B20 o20' (by decide) (.slice (some ⟨gp, 0, none⟩) M M) (.slice (some ⟨gd, 0, none⟩) N N)
        have E9 := book_rows B20 E20 (by decide) (.slice (some ⟨gp, 0, none⟩) M M) (.slice (some ⟨gd, 0, none⟩) N N)
        have D9 := (D20.setCell (p := ⟨gB, 0, none⟩) zb (.slice (some ⟨gp, 0, none⟩) M M)).setCell (p := ⟨gB, 1, none⟩) zb (.slice (some ⟨gd, 0, none⟩) N N)
        have HM := hide (RdM.mk D9 R9 B9 P9 E9 ⟨unhide HZR, zb, hne15⟩)
        go_simp
        refine unhide hK _ _ (fun _ => trivial) ?_
        clear hK K P9 E9 D9 R9 B9
        refine anyL_done (by kernel_rfl) ?_ _
        go_wp2_with fail
        go_meet
        case rel => exact ⟨gB, gp, gd, rfl, HM⟩
  case rest =>
    obtain ⟨gB, gp, gd, rfl, HM⟩ := hcut
    clear HB1 HK1 wn wn'
    go_upto_region 5 with fail
    go_loopw [6, 7, 8] (fun v6 v7 v8 wx => (∃ z, v8 = z) ∧ ∃ (i f : Nat), v7 = .int .i64 (i : Int) ∧ v6 = .int .i64 (f : Int) ∧ i ≤ d.length ∧ Hid (f = frD (d.take i)) ∧ Hid (RdM w wx gR gB gp gd N M (rdP d i N) (rdD d i N))) (fun _ v7 _ _ => d.length - (intOf v7).toNat)
    case atStart => exact ⟨⟨_, rfl⟩, ⟨0, 0, rfl, rfl, Nat.zero_le _, hide rfl, by rw [(unhide HZP N).1, (unhide HZP N).2, ← unhide HMN]; exact HM⟩⟩
    case round =>
      clear HM
      obtain ⟨⟨z1, rfl⟩, ⟨i, f, rfl, rfl, hi, HF, HM⟩⟩ := hrel
      by_cases hlt : i < d.length
      · obtain ⟨t1, _, t1'⟩ := dlt hlt
        obtain ⟨ga, off, rfl, hga, c0, c1, c2⟩ := (unhide HO wr (unhide HM).b).three hlt
        have hfr := unhide HFT i hlt
        have hb2 := unhide HBD (i + 1)
        rw [← unhide HF] at hfr
        have hpo := unhide HPO i hlt
        generalize hq : d.getD i opZ = q at *
        obtain ⟨qk, qn, qt⟩ := q
        dsimp only at c0 c1 c2 hpo
        rcases hpo with ⟨h1 | h1, h2, h3⟩ | ⟨h1, h2, h3⟩
        · dsimp only at h1 h2 h3
          subst h1 h3
          obtain ⟨m, rfl⟩ : ∃ m : Nat, qn = (m : Int) := ⟨qn.toNat, int_nat h2⟩
          rw [show frN ⟨1, (m : Int), []⟩ = m by simp [frN]] at hfr
          obtain ⟨e1, e2⟩ := unhide HKE i N hlt (by rw [hq]) hb2
          have HN2 : Hid (RdM w wr gR gB gp gd N M (rdP d (i + 1) N) (rdD d (i + 1) N)) := hide (by rw [e1, e2]; exact unhide HM)
          generalize hF' : frD (d.take (i + 1)) = F' at hfr hb2
          have HF3 : Hid (F' = frD (d.take (i + 1))) := hide hF'.symm
          obtain ⟨w1', w2⟩ := wr1b hfr (by rw [← hfr]; exact Nat.le_trans hb2 hNb)
          clear e1 e2 hfr hb2 h2 hq hF' c2 HM HF
          go_wp2_with fail
          go_roundw
          case rel => exact ⟨⟨_, rfl⟩, ⟨i + 1, F', by go_num, by first | rfl | go_num, hlt, HF3, HN2⟩⟩
          case measure => simp [intOf]; omega
        · dsimp only at h1 h2 h3
          subst h1 h3
          obtain ⟨m, rfl⟩ : ∃ m : Nat, qn = (m : Int) := ⟨qn.toNat, int_nat h2⟩
          rw [show frN ⟨3, (m : Int), []⟩ = m by simp [frN]] at hfr
          obtain ⟨e1, e2⟩ := unhide HDR i N hlt (by rw [hq]) hb2
          rw [hq] at e2
          simp only [Int.toNat_natCast] at e2
          have HN2 : Hid (∀ X, RdM w X gR gB gp gd N M (rdP d i N) (rdE d i N m) → RdM w X gR gB gp gd N M (rdP d (i + 1) N) (rdD d (i + 1) N)) := hide (fun X hX => by rw [e1, e2]; exact hX)
          generalize hF' : frD (d.take (i + 1)) = F' at hfr hb2
          have HF3 : Hid (F' = frD (d.take (i + 1))) := hide hF'.symm
          obtain ⟨w1', w2⟩ := wr1b hfr (by rw [← hfr]; exact Nat.le_trans hb2 hNb)
          have HMM : Hid (RdM w wr gR gB gp gd N M (rdP d i N) (rdE d i N 0)) := hide (by rw [rd_e0]; exact unhide HM)
          have HFB := hide (And.intro hfr hb2)
          have HQ := hide hq
          clear e1 e2 hfr hb2 h2 hq hF' c2 HM
          go_wp2_with fail
          go_loopw [8] (fun v8 wy => ∃ j : Nat, v8 = .int .i64 (j : Int) ∧ j ≤ m ∧ Hid (RdM w wy gR gB gp gd N M (rdP d i N) (rdE d i N j))) (fun v8 _ => m - (intOf v8).toNat)
          case atStart => exact ⟨0, rfl, Nat.zero_le _, HMM⟩
          case round =>
            clear HMM
            obtain ⟨j, rfl, hj, HJ⟩ := hrel
            obtain ⟨ga', off', ha', _, _, c1, _⟩ := (unhide HO wr (unhide HJ).b).three hlt
            cases ha'
            rw [unhide HQ] at c1
            dsimp only at c1
            by_cases hjl : j < m
            · obtain ⟨s1, s2, s3⟩ := dlt hjl
              obtain ⟨FJ, hFJ⟩ : ∃ FJ, FJ = f + j := ⟨_, rfl⟩
              obtain ⟨hFN, hFb, hFJN, hjb, hFN'⟩ := rd_fn (unhide HFB).1 (unhide HFB).2 hjl hNb hFJ (unhide HF)
              obtain ⟨v1, v2⟩ := wr1b hFJ hFb
              obtain ⟨p0, p1⟩ := bk_cells (unhide HJ).c
              obtain ⟨u, u1, u2⟩ := row_at (unhide HJ).d (j := FJ) (by rw [List.length_map, rdE_len (unhide HLE i N) hFN']; exact hFJN)
              have HN3 : Hid (RdM w (wr.setCell ⟨gd, FJ, none⟩ (.bool true)) gR gB gp gd N M (rdP d i N) (rdE d i N (j + 1))) := hide (by
                rw [unhide HES i N j (by rw [← unhide HF]; exact hFN), ← unhide HF, ← hFJ]
                exact (unhide HJ).dr FJ true)
              obtain ⟨x1, x2, x3⟩ := dlt hFJN
              have x4 : (0 : Int) ≤ (FJ : Int) := Int.natCast_nonneg _
              clear hFJ hFN hFb hFJN hFN' HJ p0 HFB HMN hNb hMb
              go_wp2_with fail
              go_roundw
              case rel => exact ⟨j + 1, by go_num, hjl, HN3⟩
              case measure => simp [intOf]; exact rd_ms hjl
            · obtain rfl : j = m := Nat.le_antisymm hj (Nat.not_lt.1 hjl)
              have s1 : decide ((j : Int) < (j : Int)) = false := by simp
              have HN4 := hide (unhide HN2 wr (unhide HJ))
              clear HJ HFB hjl hj
              go_wp2_with fail
              go_roundw
              case rel => exact ⟨⟨_, rfl⟩, ⟨i + 1, F', by go_num, by first | rfl | go_num, hlt, HF3, HN4⟩⟩
              case measure => simp [intOf]; omega
        · dsimp only at h1 h2 h3
          subst h1 h2
          obtain ⟨e1, e2, e3⟩ := unhide HPU i N hlt (by rw [hq])
          rw [hq, ← unhide HF] at e1
          dsimp only at e1
          have hfN : f ≤ N := by rw [e3, ← unhide HF] at hb2; exact hb2
          have HN2 : Hid (RdM w (wr.drew.setCell ⟨gp, f, none⟩ (.string (strOfNums qt))) gR gB gp gd N M (rdP d (i + 1) N) (rdD d (i + 1) N)) := hide (by
            rw [e1, e2]
            exact ((unhide HM).drew).put f qt)
          have HF3 : Hid (f = frD (d.take (i + 1))) := hide (by rw [e3]; exact unhide HF)
          obtain ⟨u, u1, u2⟩ := row_at ((unhide HM).drew).p (j := f) (by unfold txsV; rw [List.length_map, (unhide HLE i N (by rw [← unhide HF]; exact hfN)).1]; exact Nat.lt_succ_of_le hfN)
          obtain ⟨x1, x2, x3⟩ := dlt (rd_fm (unhide HMN) hfN)
          have x4 : (0 : Int) ≤ (f : Int) := Int.natCast_nonneg _
          have HS0 : Hid (wr.drew.cell? ⟨gB, 0, none⟩ = some (.slice (some ⟨gp, 0, none⟩) M M) ∧ wr.drew.cell? ⟨ga, off + i * 3 + 2, none⟩ = some (.string (strOfNums qt))) := hide ⟨(bk_cells (unhide HM).c).1, c2⟩
          clear e1 e2 e3 hfr hb2 hq HM HF hfN HMN hNb hMb c1
          generalize strOfNums qt = st at *
          go_upto_region 10 with fail
          clear c0 c2
          refine regionL (S := fun w' => w'.cell? ⟨gB, 0, none⟩ = some (.slice (some ⟨gp, 0, none⟩) M M) ∧ w'.cell? ⟨ga, off + i * 3 + 2, none⟩ = some (.string st)) (fun i => i == 9) (by kernel_rfl) ?_
          refine anyL_take (i := 0) (v := ?vrp9) rfl (by kernel_rfl) (by kernel_rfl) (by kernel_rfl) (by kernel_rfl) (fun _ _ _ h => h) (Or.inl ⟨by rfl, ?hrp9⟩) (unhide HS0) ?_
          case hrp9 => (intro w hSw; (try dsimp only at hSw); go_simp) <;> with_reducible rfl
          simp only [Act.put, List.getElem_toArray, List.getElem_cons_zero, List.setIfInBounds_toArray, List.set_cons_zero, List.set_cons_succ]
          refine anyL_take (i := 1) (v := ?vrp10) rfl (by kernel_rfl) (by kernel_rfl) (by kernel_rfl) (by kernel_rfl) (fun _ _ _ h => h) (Or.inl ⟨by rfl, ?hrp10⟩) (unhide HS0) ?_
          case hrp10 => (intro w hSw; (try dsimp only at hSw); go_simp) <;> with_reducible rfl
          simp only [Act.put, List.getElem_toArray, List.getElem_cons_zero, List.getElem_cons_succ, List.setIfInBounds_toArray, List.set_cons_zero, List.set_cons_succ]
          refine anyL_take (i := 2) (v := ?vrp11) rfl (by kernel_rfl) (by kernel_rfl) (by kernel_rfl) (by kernel_rfl) (fun _ _ _ h => h) (Or.inl ⟨by rfl, ?hrp11⟩) (unhide HS0) ?_
          case hrp11 => (intro w hSw; (try dsimp only at hSw); go_simp) <;> with_reducible rfl
          simp only [Act.put, List.getElem_toArray, List.getElem_cons_zero, List.getElem_cons_succ, List.setIfInBounds_toArray, List.set_cons_zero, List.set_cons_succ]
          refine anyL_take (i := 3) (v := ?vrp12) rfl (by kernel_rfl) (by kernel_rfl) (by kernel_rfl) (by kernel_rfl) (fun _ _ _ h => h) (Or.inl ⟨by rfl, ?hrp12⟩) (unhide HS0) ?_
          case hrp12 => (intro w hSw; (try dsimp only at hSw); go_simp) <;> with_reducible rfl
          simp only [Act.put, List.getElem_toArray, List.getElem_cons_zero, List.getElem_cons_succ, List.setIfInBounds_toArray, List.set_cons_zero, List.set_cons_succ]
          refine anyL_take (i := 4) (v := ?vrp13) rfl (by kernel_rfl) (by kernel_rfl) (by kernel_rfl) (by kernel_rfl) (fun _ _ _ h => h) (Or.inl ⟨by rfl, ?hrp13⟩) (unhide HS0) ?_
          case hrp13 => (intro w hSw; (try dsimp only at hSw); go_simp) <;> with_reducible rfl
          simp only [Act.put, List.getElem_toArray, List.getElem_cons_zero, List.getElem_cons_succ, List.setIfInBounds_toArray, List.set_cons_zero, List.set_cons_succ]
          refine anyL_take (i := 5) (v := ?vrp14) rfl (by kernel_rfl) (by kernel_rfl) (by kernel_rfl) (by kernel_rfl) (fun _ _ _ h => h) (Or.inl ⟨by rfl, ?hrp14⟩) (unhide HS0) ?_
          case hrp14 => (intro w hSw; (try dsimp only at hSw); go_simp) <;> with_reducible rfl
          simp only [Act.put, List.getElem_toArray, List.getElem_cons_zero, List.getElem_cons_succ, List.setIfInBounds_toArray, List.set_cons_zero, List.set_cons_succ]
          refine anyL_take (i := 6) (v := ?vrp15) rfl (by kernel_rfl) (by kernel_rfl) (by kernel_rfl) (by kernel_rfl) (fun _ _ _ h => h) (Or.inl ⟨by rfl, ?hrp15⟩) (unhide HS0) ?_
          case hrp15 => (intro w hSw; (try dsimp only at hSw); go_simp) <;> with_reducible rfl
          simp only [Act.put, List.getElem_toArray, List.getElem_cons_zero, List.getElem_cons_succ, List.setIfInBounds_toArray, List.set_cons_zero, List.set_cons_succ]
          refine anyL_take (i := 7) (v := ?vrp16) rfl (by kernel_rfl) (by kernel_rfl) (by kernel_rfl) (by kernel_rfl) (fun _ _ _ h => h) (Or.inl ⟨by rfl, ?hrp16⟩) (unhide HS0) ?_
          case hrp16 => (intro w hSw; (try dsimp only at hSw); go_simp) <;> with_reducible rfl
          simp only [Act.put, List.getElem_toArray, List.getElem_cons_zero, List.getElem_cons_succ, List.setIfInBounds_toArray, List.set_cons_zero, List.set_cons_succ]
          refine anyL_take (i := 8) (v := ?vrp17) rfl (by kernel_rfl) (by kernel_rfl) (by kernel_rfl) (by kernel_rfl) (fun _ _ _ h => h) (Or.inl ⟨by rfl, ?hrp17⟩) (unhide HS0) ?_
          case hrp17 => (intro w hSw; (try dsimp only at hSw); go_simp) <;> with_reducible rfl
          simp only [Act.put, List.getElem_toArray, List.getElem_cons_zero, List.getElem_cons_succ, List.setIfInBounds_toArray, List.set_cons_zero, List.set_cons_succ]
          refine anyL_ready (rs := [9]) (by kernel_rfl) (by simp) ?_
          refine AllL.cons rfl (fun K hK => ?_) AllL.nil
          go_simp
          refine unhide hK _ _ (fun h => by cases h) ?_
          clear hK K
          refine anyL_done (by kernel_rfl) ?_ _
          go_wp2_with fail
          go_roundw
          case rel => exact ⟨⟨_, rfl⟩, ⟨i + 1, f, by go_num, rfl, hlt, HF3, HN2⟩⟩
          case measure => simp [intOf]; omega
      · obtain rfl : i = d.length := Nat.le_antisymm hi (Nat.not_lt.1 hlt)
        obtain ⟨t1, _, t1'⟩ := dnl hlt
        obtain ⟨e1, e2⟩ := unhide HEP N (unhide HN)
        rw [e1, e2] at HM
        obtain ⟨p0, p1⟩ := bk_cells (unhide HM).c
        obtain ⟨q0, q1⟩ := bk_cells (unhide HM).r
        have f0 := (unhide HM).r.frozen 0
        have f1 := (unhide HM).r.frozen 1
        have HE := hide (rd_ret (unhide HM))
        rw [unhide HMN] at HE
        have k9 := ((unhide HM).r.set 0 (.slice (some ⟨gp, 0, none⟩) M M)).set 1 (.slice (some ⟨gd, 0, none⟩) N N)
        have r0 := k9.cell 0
        have r1 := k9.cell 1
        rw [show (((bookZ.setIfInBounds 0 (.slice (some ⟨gp, 0, none⟩) M M)).setIfInBounds 1 (.slice (some ⟨gd, 0, none⟩) N N)))[0]? = some (.slice (some ⟨gp, 0, none⟩) M M) from rfl] at r0
        rw [show (((bookZ.setIfInBounds 0 (.slice (some ⟨gp, 0, none⟩) M M)).setIfInBounds 1 (.slice (some ⟨gd, 0, none⟩) N N)))[1]? = some (.slice (some ⟨gd, 0, none⟩) N N) from rfl] at r1
        rw [← unhide HMN] at HE
        clear e1 e2 HM k9 hi hlt HF HZR
        have hgR := unhide HGR
        subst hgR
        clear HGR
        go_wp2_with fail
        refine bodyPost_ret (v := .agg #[.slice (some ⟨gp, 0, none⟩) M M, .slice (some ⟨gd, 0, none⟩) N N]) (by simp [results, Try.results84, go_sem, r0, r1]) rfl ⟨_, _, rfl, ?_, (unhide HE).2.1, (unhide HE).2.2⟩
        have := (unhide HE).1
        rw [unhide HMN] at this ⊢
        exact this

end Go.Proofs.Ytjjdgfjlpkhgcaa
