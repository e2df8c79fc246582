/- ScanPieces: the pieces' bytes, the state between the rounds. -/
import Derived.Test.YthpbgeaajehlkaaDoorApr
import Derived.Test.YthpbgeaajehlkaaDoorLayB
import Derived.Test.YthpbgeaajehlkaaDoorItsQ
import Derived.Test.YthpbgeaajehlkaaDoorGon
import Derived.Test.YthpbgeaajehlkaaDoorLat
namespace Go.Proofs.YthpbgeaajehlkaaDoor
open Go.ChangeShapes Go.WideShapes Go.ChangeAt Go.RowKit

def pcs (ls : List (List Int)) (k : Nat) : List Int := (ls.take k).flatten
theorem pcs_zero (ls : List (List Int)) : pcs ls 0 = [] := rfl
theorem pcs_succ {ls : List (List Int)} {k : Nat} (hk : k < ls.length) : pcs ls (k + 1) = pcs ls k ++ ls.getD k [] := by
  unfold pcs
  rw [List.take_succ_eq_append_getElem hk, List.flatten_append]
  simp [List.getD, List.getElem?_eq_getElem hk]
theorem bulk_cons (l : List Int) (ls : List (List Int)) : bulkL (l :: ls) = l.length + bulkL ls := by simp [bulkL]
theorem pcs_len : ∀ (ls : List (List Int)) (k : Nat), (pcs ls k).length ≤ bulkL ls
  | [], k => by simp [pcs, bulkL]
  | l :: ls, 0 => by simp [pcs]
  | l :: ls, k + 1 => by
    have ih := pcs_len ls k
    have e : pcs (l :: ls) (k + 1) = l ++ pcs ls k := by simp [pcs]
    rw [e, List.length_append, bulk_cons]
    omega
theorem pcs_bytes {ls : List (List Int)} (h : ∀ r, r < ls.length → ∀ x ∈ ls.getD r [], 0 ≤ x ∧ x ≤ 255) : ∀ k, k ≤ ls.length → ∀ x ∈ pcs ls k, 0 ≤ x ∧ x ≤ 255
  | 0, _ => by simp [pcs]
  | k + 1, hk => by
    intro x hx
    rw [pcs_succ (by omega)] at hx
    rcases List.mem_append.1 hx with hx | hx
    · exact pcs_bytes h k (by omega) x hx
    · exact h k (by omega) x hx
theorem pcs_scan {ls : List (List Int)} {k : Nat} (hk : k < ls.length) : scanS [] (pcs ls (k + 1)) = ((scanS [] (pcs ls k)).1 ++ (scanS (scanS [] (pcs ls k)).2 (ls.getD k [])).1, (scanS (scanS [] (pcs ls k)).2 (ls.getD k [])).2) := by
  rw [pcs_succ hk, scanS_append]
theorem IsBB.bytes {W : World} {a0 : Option Addr} {ls : List (List Int)} (h : IsBB W a0 ls) : ∀ r, r < ls.length → ∀ x ∈ ls.getD r [], 0 ≤ x ∧ x ≤ 255 := by
  intro r hr
  rcases h with h | ⟨g, off, rfl, hg, hc⟩
  · rw [h] at hr; simp at hr
  · obtain ⟨A, C, _, hB⟩ := hc r hr
    exact hB.2.2.2
theorem IsBB.at {W : World} {a0 : Option Addr} {ls : List (List Int)} (h : IsBB W a0 ls) {r : Nat} (hr : r < ls.length) : ∃ g off A C, a0 = some ⟨g, off, none⟩ ∧ g < W.heap.size ∧ W.cell? ⟨g, off + r, none⟩ = some (.slice A (ls.getD r []).length C) ∧ IsB W A C (ls.getD r []) := by
  rcases h with h | ⟨g, off, rfl, hg, hc⟩
  · rw [h] at hr; simp at hr
  · obtain ⟨A, C, h1, h2⟩ := hc r hr
    exact ⟨g, off, A, C, rfl, hg, h1, h2⟩

/-- between the rounds: n₁: where rows of the call's own begin -/
structure Pc (R G gs n₁ : Nat) (p : List Int) (va vg : Value) (w wx : World) : Prop where
  sca : Sca wx gs (scanS [] p).2 (p.length : Int)
  all : Own wx n₁ va p
  got : RT n₁ vg (scanS [] p).1 wx
  bg : Boxed wx G 30 vg
  br : Boxed wx R 4 (.bool false)
  below : Below w.heap.size w wx
  lo : w.heap.size ≤ R ∧ w.heap.size ≤ G ∧ w.heap.size ≤ gs
  hi : R < n₁ ∧ G < n₁ ∧ gs < n₁
  ne : R ≠ G ∧ R ≠ gs ∧ G ≠ gs
  top : n₁ ≤ wx.heap.size
theorem Pc.lenT {R G gs n₁ : Nat} {p : List Int} {va vg : Value} {w wx : World} (_h : Pc R G gs n₁ p va vg w wx) : (scanS [] p).1.length + (scanS [] p).2.length ≤ p.length := by
  have := scanS_len (h := []) (b := p) (Or.inl rfl)
  simpa using this

theorem Own.same {B : Nat} {v : Value} {l : List Int} {W W' : World} (h : Own W B v l) (hb : ∀ k, B ≤ k → k < W.heap.size → W'.heap[k]? = W.heap[k]?) : Own W' B v l := by
  refine ⟨h.1, ?_⟩
  rcases h.2 with hn | ⟨g, cap, cur, rfl, hB, hgg, rest⟩
  · exact .inl hn
  · exact .inr ⟨g, cap, cur, rfl, hB, (hb g hB (Array.getElem?_eq_some_iff.1 hgg).1).trans hgg, rest⟩
theorem box_same {W W' : World} {g : Nat} {t : TypeId} {v : Value} (h : Boxed W g t v) (hb : W'.heap[g]? = W.heap[g]?) : Boxed W' g t v := hb.trans h
theorem set_same (W : World) {g k o : Nat} (v : Value) (h : k ≠ g) : (W.setCell ⟨g, o, none⟩ v).heap[k]? = W.heap[k]? :=
  (((Scf.refl (k + 1) g W).set o v)).block k (Nat.lt_succ_self _) h
theorem Pc.on {R G gs n₁ : Nat} {p : List Int} {va vg : Value} {w wx w' : World} (h : Pc R G gs n₁ p va vg w wx) (hb : Below wx.heap.size wx w') : Pc R G gs n₁ p va vg w w' := by
  have hs := hb.size
  have ht := h.top
  have hz := h.below.size
  exact ⟨h.sca.below hb h.sca.lt, h.all.same fun k _ hk => hb.block k hk, h.got.below hb, box_same h.bg (hb.block _ h.bg.lt), box_same h.br (hb.block _ h.br.lt), h.below.trans (hb.mono hz), h.lo, h.hi, h.ne, by omega⟩
/-- behind Feed -/
theorem Pc.row {R G gs n₁ : Nat} {p : List Int} {va vg : Value} {w w2 w3 : World} (h : Pc R G gs n₁ p va vg w w2) (f : Scf w2.heap.size gs w2 w3) : RT n₁ vg (scanS [] p).1 w3 := h.got.scf f h.hi.2.2
/-- behind the append to got -/
theorem Pc.mid {R G gs n₁ : Nat} {p : List Int} {va vg : Value} {w w2 w3 w4 : World} (h : Pc R G gs n₁ p va vg w w2) (f : Scf w2.heap.size gs w2 w3) (x4 : Below n₁ w3 w4) (g4 : w3.grownBy w4 vg.ownBlock) (vg' : Value) :
    Boxed w4 G 30 vg ∧ Boxed (w4.setCell ⟨G, 0, none⟩ vg') G 30 vg' ∧ Boxed (w4.setCell ⟨G, 0, none⟩ vg') R 4 (.bool false) ∧ Own (w4.setCell ⟨G, 0, none⟩ vg') n₁ va p ∧ Below w.heap.size w (w4.setCell ⟨G, 0, none⟩ vg') ∧ n₁ ≤ (w4.setCell ⟨G, 0, none⟩ vg').heap.size := by
  obtain ⟨l1, l2, l3⟩ := h.lo
  obtain ⟨h1, h2, h3⟩ := h.hi
  obtain ⟨n1, n2, n3⟩ := h.ne
  have ht := h.top
  have hz := h.below.size
  have fs := f.size
  have xs := x4.size
  have bG : Boxed w4 G 30 vg := box_same h.bg ((x4.block G h2).trans (f.block G (by omega) n3))
  have bR : Boxed w4 R 4 (.bool false) := box_same h.br ((x4.block R h1).trans (f.block R (by omega) n2))
  have o3 : Own w3 n₁ va p := h.all.same fun k hk hk' => f.block k hk' (by omega)
  have o4 : Own w4 n₁ va p := World.ownsRow.kept o3 g4 (apart_rows' o3 (h.row f))
  refine ⟨bG, bG.set _, box_same bR (set_same _ _ n1), o4.same fun k hk _ => set_same _ _ (by omega), ?_, by rw [size_set]; omega⟩
  have b3 : Below w.heap.size w w3 := h.below.trans ((f.mono hz).below l3)
  have b4 : Below w.heap.size w w4 := b3.trans (x4.mono (by omega))
  exact b4.setCell (p := ⟨G, 0, none⟩) l2 _
/-- behind the append to all -/
theorem Pc.next {R G gs n₁ : Nat} {p r : List Int} {va vg va' vg' : Value} {w w2 w3 w4 w6 : World} (h : Pc R G gs n₁ p va vg w w2) (f : Scf w2.heap.size gs w2 w3) (x4 : Below n₁ w3 w4) (g4 : w3.grownBy w4 vg.ownBlock)
    (s3 : Sca w3 gs (scanS (scanS [] p).2 r).2 ((p.length : Int) + (r.length : Int))) (o4 : RT n₁ vg' ((scanS [] p).1 ++ (scanS (scanS [] p).2 r).1) w4)
    (o6 : Own w6 n₁ va' (p ++ r)) (x6 : Below n₁ (w4.setCell ⟨G, 0, none⟩ vg') w6) (g6 : (w4.setCell ⟨G, 0, none⟩ vg').grownBy w6 va.ownBlock) : Pc R G gs n₁ (p ++ r) va' vg' w w6 := by
  obtain ⟨m1, m2, m3, m4, m5, m6⟩ := h.mid f x4 g4 vg'
  obtain ⟨l1, l2, l3⟩ := h.lo
  obtain ⟨h1, h2, h3⟩ := h.hi
  obtain ⟨n1, n2, n3⟩ := h.ne
  have hz := h.below.size
  have ht := h.top
  have e : scanS [] (p ++ r) = ((scanS [] p).1 ++ (scanS (scanS [] p).2 r).1, (scanS (scanS [] p).2 r).2) := scanS_append _ _ _
  have r5 : RT n₁ vg' ((scanS [] p).1 ++ (scanS (scanS [] p).2 r).1) (w4.setCell ⟨G, 0, none⟩ vg') := o4.same fun k hk _ => set_same _ _ (by omega)
  have xs := x6.size
  refine ⟨?_, o6, ?_, box_same m2 (x6.block G h2), box_same m3 (x6.block R h1), m5.trans (x6.mono (by omega)), h.lo, h.hi, h.ne, by omega⟩
  · rw [e, show (((p ++ r).length : Nat) : Int) = (p.length : Int) + (r.length : Int) by simp]
    have hb5 : (w4.setCell ⟨G, 0, none⟩ vg').heap[gs]? = w3.heap[gs]? := (set_same _ _ (Ne.symm n3)).trans (x4.block gs h3)
    refine Sca.same (w := w4.setCell ⟨G, 0, none⟩ vg') ?_ x6.size (x6.block gs h3)
    exact s3.same (by rw [size_set]; exact x4.size) hb5
  · rw [e]
    exact World.ownsRow.kept r5 g6 (apart_rows m4 r5)
end Go.Proofs.YthpbgeaajehlkaaDoor
