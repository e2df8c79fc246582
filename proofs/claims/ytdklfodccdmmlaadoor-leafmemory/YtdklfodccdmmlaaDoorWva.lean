/- Layer 5: told, Valid. -/
import Derived.Test.YtdklfodccdmmlaaDoorWof
import Derived.Test.YtdklfodccdmmlaaDoorTold
import Derived.Test.YtdklfodccdmmlaaDoorLaf
namespace Go.Proofs.YtdklfodccdmmlaaDoor
open Go.ChangeShapes Go.WideShapes Go.ChangeAt Go.RowKit

theorem str_app (a b : List Int) : strOfNums a ++ strOfNums b = strOfNums (a ++ b) := by
  unfold strOfNums
  apply ByteArray.ext
  simp [ByteArray.data_append]
/-- []byte(string) in whatever world -/
theorem toBytes (W : World) (l : List Int) (hl : ∀ x ∈ l, 0 ≤ x ∧ x ≤ 255) (hn : l.length ≤ 140737488351232) :
    ∃ c W', (convert 9 22 (.string (strOfNums l))).run Tryd.prog W = .ok (.slice (some ⟨W.heap.size, 0, none⟩) l.length c) W' ∧ IsN W' (some ⟨W.heap.size, 0, none⟩) c l ∧ Below W.heap.size W W' ∧ W.heap.size < W'.heap.size := by
  have := run_bytes_of_string (P := Tryd.prog) W 9 22 5 (strOfNums l) Tryd.underlying9 Tryd.underlying22 Tryd.underlying5
  rw [strOfNums_size] at this
  have hge := grownCap_ge W l.length 0 5
  refine ⟨_, _, this, ⟨IsB.of (fun i hi => ⟨?_, ?_⟩) hge hn, fun e => by cases e⟩, ((Below.refl W.heap.size W).drew).alloc (Nat.le_refl _) _, by rw [World.size_alloc]; exact Nat.lt_succ_self _⟩
  · rw [Nat.zero_add]
    refine (World.cell?_alloc_mark W.drew _ 5 _ i).trans ?_
    have hb := hl _ (List.getElem_mem hi)
    unfold bytesRow
    rw [Array.getElem?_append_left (by rw [Array.size_map]; show i < (strOfNums l).size; rw [strOfNums_size]; exact hi)]
    simp [strOfNums, List.getElem?_eq_getElem hi, List.getD]
    omega
  · have := hl _ (List.getElem_mem hi)
    simpa [List.getD, List.getElem?_eq_getElem hi] using this

def toldL (n : Nat) (h t : List Int) : List Int := h ++ t.drop (t.length - (n - h.length))
theorem bytesOf_inj : ∀ {a b : List Int}, (∀ x ∈ a, 0 ≤ x ∧ x ≤ 255) → (∀ x ∈ b, 0 ≤ x ∧ x ≤ 255) → Lib.bytesOf a = Lib.bytesOf b → a = b
  | [], [], _, _, _ => rfl
  | [], _ :: _, _, _, h => by simp [Lib.bytesOf] at h
  | _ :: _, [], _, _, h => by simp [Lib.bytesOf] at h
  | x :: a, y :: b, ha, hb, h => by
    simp only [Lib.bytesOf, List.map_cons, List.cons.injEq] at h
    have h1 := ha x (List.mem_cons_self ..)
    have h2 := hb y (List.mem_cons_self ..)
    have e := u8_eq h1 y.toNat (by omega)
    rw [e] at h
    have ih := bytesOf_inj (fun z hz => ha z (List.mem_cons_of_mem _ hz)) (fun z hz => hb z (List.mem_cons_of_mem _ hz)) h.2
    rw [ih, h.1]
    congr 1
    omega
theorem str_eq {a b : List Int} (ha : ∀ x ∈ a, 0 ≤ x ∧ x ≤ 255) (hb : ∀ x ∈ b, 0 ≤ x ∧ x ≤ 255) : ((strOfNums a).toList = (strOfNums b).toList) = (a = b) := by
  rw [Lib.strOfNums_toList, Lib.strOfNums_toList]
  exact propext ⟨fun h => bytesOf_inj ha hb h, fun h => by rw [h]⟩
structure Byw (x : We) : Prop where
  h : ∀ y ∈ x.h, 0 ≤ y ∧ y ≤ 255
  t : ∀ y ∈ x.t, 0 ≤ y ∧ y ≤ 255
theorem byw_of {l : List Int} (h : ∀ x ∈ l, 0 ≤ x ∧ x ≤ 255) : Byw (ofL l) := ⟨fun y hy => h y (List.mem_of_mem_take hy), fun y hy => h y (List.mem_of_mem_drop hy)⟩
theorem we_ifs {α : Type} (x y : We) (hx : Byw x) (hy : Byw y) (T F : α) : (if x.z.b = y.z.b then if x.z.r = y.z.r then if x.z.u = y.z.u then if x.z.e = y.z.e then if (strOfNums x.h).toList = (strOfNums y.h).toList then if (strOfNums x.t).toList = (strOfNums y.t).toList then T else F else F else F else F else F else F) = if x = y then T else F := by
  simp only [str_eq hx.h hy.h, str_eq hx.t hy.t]
  obtain ⟨⟨b, r, u, e⟩, h, t⟩ := x
  obtain ⟨⟨b', r', u', e'⟩, h', t'⟩ := y
  simp only [We.mk.injEq, Sz.mk.injEq]
  repeat' split
  all_goals first | rfl | (exfalso; simp_all)

def validB (x : We) : Bool :=
  if x.z.b < 0 ∨ 268435456 < x.z.b then false
  else if (x.h.length : Int) ≠ min x.z.b 3 ∨ (x.t.length : Int) ≠ min x.z.b 3 then false
  else if x.z.b ≤ 6 then decide (x = ofL (toldL x.z.b.toNat x.h x.t)) else mayB x.z

end Go.Proofs.YtdklfodccdmmlaaDoor
