/- Layer 13: the law's fixed fact. · Layer 13: the law's same and bytes, told by what lies there. · Layer 13: DeltaApply. · Layer 13: DeltaApply's walk. · Layer 13: DeltaCanon's walk (written by wip/tools/dsf.py). -/
import Derived.Test.YthikhnlgpljbpaaMg23
import Derived.Lib.SlBytesConst
import Derived.Test.YthikhnlgpljbpaaMg15

section
namespace Go.Proofs.Ythikhnlgpljbpaa
open Go.ChangeShapes Go.WideShapes Go.ChangeAt Go.RowKit
theorem str_ex : strOfNums [97, 98, 120, 121, 100, 101, 102] = ⟨#[97, 98, 120, 121, 100, 101, 102]⟩ := by decide
theorem str_c : strOfNums [99] = ⟨#[99]⟩ := by decide
/-- Apply of the example -/
theorem exApply (w1 wb : World) (a : Option Addr) (c : Nat) (hx : Below (w1.heap.size + 1) (w1.alloc (.cells #[.int .u8 97, .int .u8 98, .int .u8 99, .int .u8 100, .int .u8 101, .int .u8 102] 5 (6, 7))) wb) (h : IsO wb a exD) :
    Calls Try.prog 27 #[.slice (some ⟨w1.heap.size, 0, none⟩) 6 6, .slice a 4 c] wb fun y w' => ∃ g cap, y = .returned (.tuple #[.slice (some ⟨g, 0, none⟩) 7 cap, .int .i64 0]) ∧ Lies w' g 0 [97, 98, 120, 121, 100, 101, 102] ∧ g < w'.heap.size ∧ Below wb.heap.size wb w' :=
  (Apply_at (some ⟨w1.heap.size, 0, none⟩) 6 exB a c exD wb (ex_isB w1 wb hx) h (by decide) ex_tb).mono fun y w' ⟨v, e, ho, x⟩ => by
    rw [ex_fit] at e ho
    rw [if_pos rfl, ex_ap] at ho
    obtain ⟨g, cap, rfl, _, h2, _⟩ := ho.form (by decide)
    exact ⟨g, cap, e, ho.lies (by decide), h2, x⟩
theorem exLens (wb : World) (a : Option Addr) (c : Nat) (h : IsO wb a exD) :
    Calls Try.prog 32 #[.slice a 4 c] wb fun y w' => y = .returned (.tuple #[.int .i64 6, .int .i64 7, .int .i64 0]) ∧ Below wb.heap.size wb w' :=
  (Lens_at a c exD wb h (by decide)).mono fun y w' ⟨e, x⟩ => by
    unfold lensV at e
    rw [ex_val.1, ex_val.2.1, ex_val.2.2] at e
    exact ⟨e, x⟩
theorem exValid (wb : World) (a : Option Addr) (c : Nat) (h : IsO wb a exD) :
    Calls Try.prog 26 #[.slice a 4 c] wb fun y w' => y = .returned (.bool true) ∧ Below wb.heap.size wb w' :=
  (Valid_atD a c exD wb h (by decide)).mono fun y w' ⟨e, x⟩ => by
    rw [ex_val.1] at e
    exact ⟨e, x⟩
end Go.Proofs.Ythikhnlgpljbpaa
end

section
namespace Go.Proofs.Ythikhnlgpljbpaa
open Go.ChangeShapes Go.WideShapes Go.ChangeAt Go.RowKit
attribute [local go_sem] Oper.semAt_some

theorem Own.isB {w : World} {B : Nat} {v : Value} {l : List Int} (h : Own w B v l) (hl : ∀ x ∈ l, 0 ≤ x ∧ x ≤ 255) (hn : l.length ≤ 140737488351232) : ∃ a c, v = .slice a l.length c ∧ IsB w a c l := by
  have hh := h
  rcases h.2 with ⟨rfl, h0⟩ | ⟨g, cap, cur, rfl, _, _, hc, _⟩
  · have h0' : l = [] := List.length_eq_zero_iff.1 h0
    exact ⟨none, 0, by rw [h0], by omega, hn, Or.inl h0', hl⟩
  · exact ⟨some ⟨g, 0, none⟩, cap, rfl, hc, hn, Or.inr ⟨g, 0, rfl, hh.lies hl⟩, hl⟩
/-- the inverse is of bytes, if the old bytes are -/
theorem runV_tb {b : List Int} (hb : ∀ x ∈ b, 0 ≤ x ∧ x ≤ 255) (d : List Dop) : (∀ x ∈ (runV b d).1, 0 ≤ x ∧ x ≤ 255) ∧ ∀ o ∈ (runV b d).2, TbD o := by
  unfold runV
  have : ∀ (d : List Dop) (s : List Int × List Dop), ((∀ x ∈ s.1, 0 ≤ x ∧ x ≤ 255) ∧ ∀ o ∈ s.2, TbD o) → (∀ x ∈ (d.foldl stV s).1, 0 ≤ x ∧ x ≤ 255) ∧ ∀ o ∈ (d.foldl stV s).2, TbD o := by
    intro d
    induction d with
    | nil => intro s h; exact h
    | cons o r ih =>
      intro s h
      refine ih _ ?_
      unfold stV
      split
      · refine ⟨fun x hx => h.1 x (List.mem_of_mem_drop hx), fun q hq => ?_⟩
        rcases List.mem_append.1 hq with hq | hq
        · exact h.2 q hq
        · rw [List.mem_singleton.1 hq]; intro x hx; cases hx
      · split
        · refine ⟨h.1, fun q hq => ?_⟩
          rcases List.mem_append.1 hq with hq | hq
          · exact h.2 q hq
          · rw [List.mem_singleton.1 hq]; intro x hx; cases hx
        · refine ⟨fun x hx => h.1 x (List.mem_of_mem_drop hx), fun q hq => ?_⟩
          rcases List.mem_append.1 hq with hq | hq
          · exact h.2 q hq
          · rw [List.mem_singleton.1 hq]; intro x hx; exact h.1 x (List.mem_of_mem_take hx)
  exact this d (b, []) ⟨hb, fun o ho => by cases ho⟩

end Go.Proofs.Ythikhnlgpljbpaa
end

section
namespace Go.Proofs.Ythikhnlgpljbpaa
open Go.ChangeShapes Go.WideShapes Go.ChangeAt Go.RowKit
theorem runW_tb {b : List Int} (hb : ∀ x ∈ b, 0 ≤ x ∧ x ≤ 255) (d : List Dop) (hd : ∀ o ∈ d, TbD o) : (∀ x ∈ (runW b d).1, 0 ≤ x ∧ x ≤ 255) ∧ ∀ x ∈ (runW b d).2, 0 ≤ x ∧ x ≤ 255 := by
  unfold runW
  have : ∀ (d : List Dop), (∀ o ∈ d, TbD o) → ∀ (s : List Int × List Int), ((∀ x ∈ s.1, 0 ≤ x ∧ x ≤ 255) ∧ ∀ x ∈ s.2, 0 ≤ x ∧ x ≤ 255) → (∀ x ∈ (d.foldl stW s).1, 0 ≤ x ∧ x ≤ 255) ∧ ∀ x ∈ (d.foldl stW s).2, 0 ≤ x ∧ x ≤ 255 := by
    intro d
    induction d with
    | nil => intro _ s h; exact h
    | cons o r ih =>
      intro hd s h
      refine ih (fun q hq => hd q (List.mem_cons_of_mem _ hq)) _ ?_
      unfold stW
      split
      · refine ⟨fun x hx => h.1 x (List.mem_of_mem_drop hx), fun x hx => ?_⟩
        rcases List.mem_append.1 hx with hx | hx
        · exact h.2 x hx
        · exact h.1 x (List.mem_of_mem_take hx)
      · split
        · refine ⟨h.1, fun x hx => ?_⟩
          rcases List.mem_append.1 hx with hx | hx
          · exact h.2 x hx
          · exact hd o List.mem_cons_self x hx
        · exact ⟨fun x hx => h.1 x (List.mem_of_mem_drop hx), h.2⟩
  exact this d hd (b, []) ⟨hb, fun o ho => by cases ho⟩
def apE (b : List Int) (d : List Dop) : List Int := if fitE d b.length = 0 then apD b d else []
theorem apE_tb {b : List Int} (hb : ∀ x ∈ b, 0 ≤ x ∧ x ≤ 255) {d : List Dop} (hd : ∀ o ∈ d, TbD o) : (∀ x ∈ apE b d, 0 ≤ x ∧ x ≤ 255) ∧ (apE b d).length ≤ 140737488351232 := by
  unfold apE
  rcases fit_cases d b.length with ⟨hv, he⟩ | ⟨hv, hf, he, _⟩ | ⟨hv, hf, he⟩
  · rw [he, if_neg (by decide)]; exact ⟨fun x hx => (by cases hx), by simp⟩
  · rw [he, if_neg (by decide)]; exact ⟨fun x hx => (by cases hx), by simp⟩
  · rw [he, if_pos rfl, ap_len hv hf]
    exact ⟨(runW_tb hb d hd).2, by have := (valB_nn hv).2; omega⟩
theorem ApplyB_at (a0 : Option Addr) (c0 : Nat) (b : List Int) (a : Option Addr) (c : Nat) (d : List Dop) (w : World) (hb : IsB w a0 c0 b) (h : IsO w a d) (hl : d.length ≤ 4611686018427387904) (ht : ∀ o ∈ d, TbD o) :
    Calls Try.prog 27 #[.slice a0 b.length c0, .slice a d.length c] w fun y w' => ∃ a' c', y = .returned (.tuple #[.slice a' (apE b d).length c', .int .i64 (fitE d b.length)]) ∧ IsB w' a' c' (apE b d) ∧ Below w.heap.size w w' :=
  (Apply_at a0 c0 b a c d w hb h hl ht).mono fun y w' ⟨v, e, ho, x⟩ => by
    obtain ⟨a', c', rfl, h1⟩ := Own.isB (l := apE b d) ho (apE_tb hb.2.2.2 ht).1 (apE_tb hb.2.2.2 ht).2
    exact ⟨a', c', e, h1, x⟩
end Go.Proofs.Ythikhnlgpljbpaa
end

section
namespace Go.Proofs.Ythikhnlgpljbpaa
open Go.ChangeShapes Go.WideShapes Go.ChangeAt Go.RowKit
attribute [local go_sem] Oper.semAt_some

def TbB (b : Bld) : Prop := (∀ o ∈ b.ops, TbD o) ∧ ∀ x ∈ b.tx, 0 ≤ x ∧ x ≤ 255
theorem tb_fin {b : Bld} (h : TbB b) : ∀ o ∈ b.fin, TbD o := by
  intro o ho
  unfold Bld.fin at ho
  rcases List.mem_append.1 ho with ho | ho
  · rcases List.mem_append.1 ho with ho | ho
    · rcases List.mem_append.1 ho with ho | ho
      · exact h.1 o ho
      · unfold kO at ho
        split at ho
        · cases ho
        · rw [List.mem_singleton.1 ho]; intro x hx; cases hx
    · unfold pO at ho
      split at ho
      · cases ho
      · rw [List.mem_singleton.1 ho]; exact h.2
  · unfold dO at ho
    split at ho
    · cases ho
    · rw [List.mem_singleton.1 ho]; intro x hx; cases hx
theorem tb_op {b : Bld} {o : Dop} (h : TbB b) (ho : TbD o) : TbB (b.op o) := by
  unfold Bld.op
  split
  · unfold Bld.keep
    split
    · exact h
    · split
      · exact ⟨h.1, fun x hx => by cases hx⟩
      · exact ⟨tb_fin h, fun x hx => by cases hx⟩
  · split
    · refine ⟨h.1, fun x hx => ?_⟩
      rcases List.mem_append.1 hx with hx | hx
      · exact h.2 x hx
      · exact ho x hx
    · exact h
theorem tb_feed : ∀ (e : List Dop) (b : Bld), TbB b → (∀ o ∈ e, TbD o) → TbB (feedD b e)
  | [], _, h, _ => h
  | o :: r, b, h, he => tb_feed r (b.op o) (tb_op h (he o List.mem_cons_self)) (fun q hq => he q (List.mem_cons_of_mem _ hq))
theorem can_tb {e : List Dop} (he : ∀ o ∈ e, TbD o) : ∀ o ∈ canA (dA e), TbD o := by
  unfold canA
  rw [← feedD_A]
  exact tb_fin (tb_feed e b0 ⟨fun o ho => by simp [b0] at ho, fun x hx => by simp [b0] at hx⟩ he)
theorem iv_small {b : List Int} {d : List Dop} (hv : valB d = true) (hf : frD d = b.length) : (canA (dA (ivD b d))).length ≤ 4611686018427387904 := by
  have h1 := can_len (canA_can (dA (ivD b d))).p
  have h2 : (dA (canA (dA (ivD b d)))).length = (dA (ivD b d)).length := fin_len _
  have h3 := (runV_len hv hf d.length (Nat.le_refl _)).2
  have h4 := (valB_nn hv).2
  rw [List.take_length] at h3
  have h5 : (dA (ivD b d)).length ≤ frD d + toD d := h3
  omega
end Go.Proofs.Ythikhnlgpljbpaa
end

section
namespace Go.Proofs.Ythikhnlgpljbpaa
open Go.ChangeShapes Go.WideShapes Go.ChangeAt Go.RowKit
attribute [local go_sem] Oper.semAt_some

theorem own_isOC {W : World} {B : Nat} {t : TypeId} {v : Value} {d : List Dop} (h : W.ownsRow B t 3 v d.length (opsV d)) : ∃ a c, v = .slice a d.length c ∧ IsO W a d ∧ d.length ≤ c := by
  have hh := h
  rcases h.2 with ⟨rfl, h0⟩ | ⟨g, cap, cur, rfl, hB, hg, hc, hm, hs, ht⟩
  · have : d = [] := List.length_eq_zero_iff.1 h0
    exact ⟨none, 0, by rw [h0], Or.inl this, by omega⟩
  · refine ⟨some ⟨g, 0, none⟩, cap, rfl, Or.inr ⟨g, 0, rfl, (Array.getElem?_eq_some_iff.1 hg).1, fun k hk => ?_⟩, hc⟩
    have f : ∀ j, j < 3 → W.cell? ⟨g, 0 + (k * 3 + j), none⟩ = (opL (d.getD k opZ))[j]? := fun j hj => by
      have e := opsV_get d k j hk hj
      obtain ⟨u, hu⟩ : ∃ u, (opL (d.getD k opZ))[j]? = some u := ⟨_, List.getElem?_eq_getElem (by simpa [opL] using hj)⟩
      rw [hu] at e ⊢
      have := World.ownsRow.cells hh rfl (k * 3 + j) u e
      rwa [Addr.add_lit] at this
    exact ⟨f 0 (by decide), f 1 (by decide), f 2 (by decide)⟩
theorem can_small {d : List Dop} (hk : ∀ o ∈ d, o.k = 1 ∨ o.k = 2 ∨ o.k = 3) (hl : frD d ≤ 268435456 ∧ toD d ≤ 268435456) : (canA (dA d)).length ≤ 1073741824 := by
  have h1 := dA_len hk
  have h2 := feed_bound (dA d)
  have h3 := fin_lenD (feedA b0 (dA d))
  unfold canA
  omega
theorem canD_len (d : List Dop) : (canD d).1.length ≤ 4611686018427387904 := by
  unfold canD
  cases h1 : d.all knB with
  | false => simp
  | true =>
    cases h2 : lonB d with
    | true => simp
    | false =>
      simp only [if_true, Bool.false_eq_true, if_false]
      have h3 : ¬ (268435456 < frD d ∨ 268435456 < toD d) := of_decide_eq_false h2
      have := can_small (d := d) (fun o ho => kn_k h1 ho) (by omega)
      omega
theorem canD_tb {d : List Dop} (h : ∀ o ∈ d, TbD o) : ∀ o ∈ (canD d).1, TbD o := by
  unfold canD
  split
  · split
    · simp
    · exact can_tb h
  · simp
theorem her_tb {m : Nat} {cs : List Dop} (h : ∀ o ∈ cs, TbD o) : ∀ o ∈ herL m cs, TbD o := by
  unfold herL
  split
  · exact h
  · intro o ho
    rcases List.mem_append.1 ho with ho | ho
    · exact h o ho
    · simp at ho; subst ho; intro x hx; simp at hx
theorem up_tb {f : Dop → Dop} {l : List Dop} (h : ∀ o ∈ l, TbD o) (hf : ∀ x, TbD x → TbD (f x)) : ∀ o ∈ upL f l, TbD o := by
  by_cases hl : l = []
  · subst hl; intro o ho; simp [upL] at ho
  · obtain ⟨e, x, rfl⟩ := list_snoc hl
    rw [upL_snoc]
    intro o ho
    rcases List.mem_append.1 ho with ho | ho
    · exact h o (by simp [ho])
    · simp at ho; subst ho; exact hf x (h x (by simp))
theorem stL_tb {s : Nat × List Dop} {o : Dop} (h : ∀ x ∈ s.2, TbD x) (ho : TbD o) : ∀ x ∈ (stL s o).2, TbD x := by
  unfold stL
  split
  · exact h
  · split
    · exact up_tb (her_tb h) (fun x _ => ho)
    · exact up_tb (her_tb h) (fun x hx => hx)
theorem runL_tb {d : List Dop} (h : ∀ o ∈ d, TbD o) : ∀ s : Nat × List Dop, (∀ x ∈ s.2, TbD x) → ∀ x ∈ (d.foldl stL s).2, TbD x := by
  induction d with
  | nil => intro s hs; exact hs
  | cons o r ih => intro s hs; exact ih (fun x hx => h x (by simp [hx])) _ (stL_tb hs (h o (by simp)))
end Go.Proofs.Ythikhnlgpljbpaa
end
