/- Layer 14: the arguments of ShiftMemory, copied; a room made. · Layer 14: what ShiftMemory calls with its rooms; what it reads of its lists. · Layer 14: lists that are written over one by one (for ShiftMemory). -/
import Derived.Test.YtjjdgfjlpkhgcaaMg39

section
namespace Go.Proofs.Ytjjdgfjlpkhgcaa
open Go.ChangeShapes Go.WideShapes Go.ChangeAt Go.RowKit
attribute [local go_sem] Oper.semAt_some

theorem as_copy (A0 : Option Addr) (cc : Nat) (ds : List Dl) (b : Dl) (w X : World) (h : IsDx w X A0 ds) (hl : ds.length ≤ 1048576) :
    ∃ v1 X1 g c X2, (Builtin.append_ #[57, 57] 57 #[.slice (some ⟨X.heap.size, 0, none⟩) 0 0, .slice A0 ds.length cc]).run Try.prog (X.alloc (.cells #[] 24)) = .ok v1 X1 ∧
      (Builtin.append_ #[57, 57] 57 #[v1, .slice (some ⟨X1.heap.size, 0, none⟩) 1 1]).run Try.prog (X1.alloc (.cells #[.slice b.a b.d.length b.c] 24)) = .ok (.slice (some ⟨g, 0, none⟩) (ds ++ [b]).length c) X2 ∧
      X2.ownsRow X.heap.size 24 1 (.slice (some ⟨g, 0, none⟩) (ds ++ [b]).length c) (ds ++ [b]).length ((ds ++ [b]).map dlV) ∧ Below X.heap.size X X2 := by
  have b0 : Below X.heap.size X (X.alloc (.cells #[] 24)) := (Below.refl _ _).alloc (Nat.le_refl _) _
  have hown : (X.alloc (.cells #[] 24)).ownsRow X.heap.size 24 1 (.slice (some ⟨X.heap.size, 0, none⟩) 0 0) 0 [] := World.ownsRow_made X #[] 0 (Nat.le_refl _) (Nat.zero_le _) rfl
  have step1 : ∃ v1 X1, (Builtin.append_ #[57, 57] 57 #[.slice (some ⟨X.heap.size, 0, none⟩) 0 0, .slice A0 ds.length cc]).run Try.prog (X.alloc (.cells #[] 24)) = .ok v1 X1 ∧ X1.ownsRow X.heap.size 24 1 v1 ds.length (ds.map dlV) ∧ Below X.heap.size X X1 := by
    by_cases hd : ds = []
    · subst hd
      cases A0 with
      | none => exact ⟨_, _, app_dl0 _ _ _ _ _ cc _ hown, hown, b0⟩
      | some a =>
        obtain ⟨v', W', r, o, _, _, bb⟩ := app_dl _ X.heap.size _ 0 [] hown a 0 cc [] rfl (fun j u hj => by simp at hj) (fun u hu => by cases hu) (by omega) (by simp)
        exact ⟨v', W', r, o, b0.trans bb⟩
    · have h0 : 0 < ds.length := List.length_pos_iff.2 hd
      obtain ⟨G, O, rfl, hG, _⟩ := h.c 0 h0
      obtain ⟨v', W', r, o, _, _, bb⟩ := app_dl _ X.heap.size _ 0 [] hown ⟨G, O, none⟩ ds.length cc (ds.map dlV) (by simp) (fun j u hj => by
        have hj' : j < ds.length := by have := (List.getElem?_eq_some_iff.1 hj).1; simpa using this
        obtain ⟨G', O', e, _, hc⟩ := h.c j hj'
        cases e
        rw [Addr.add_lit]
        refine (World.cell?_of_block (a := ⟨G, O + j, none⟩) (heap_alloc_old X _ hG)).trans (hc.trans ?_)
        rw [← hj, List.getElem?_map, List.getElem?_eq_getElem hj', Option.map_some]
        simp [List.getD, List.getElem?_eq_getElem hj', dlV]) (fun u hu => by obtain ⟨x, _, rfl⟩ := List.mem_map.1 hu; rfl) (by omega) (by simp)
      refine ⟨v', W', r, ?_, b0.trans bb⟩
      simpa using o
  obtain ⟨v1, X1, r1, o1, bb1⟩ := step1
  have b1 : Below X1.heap.size X1 (X1.alloc (.cells #[.slice b.a b.d.length b.c] 24)) := (Below.refl _ _).alloc (Nat.le_refl _) _
  have hs1 := bb1.size
  obtain ⟨v', W', r, o, _, _, bb⟩ := app_dl _ X.heap.size v1 ds.length (ds.map dlV) (rowD_below o1 b1 (Nat.le_refl _)) ⟨X1.heap.size, 0, none⟩ 1 1 [.slice b.a b.d.length b.c] rfl (fun j u hj => lit_dl X1 _ j u hj) (fun u hu => by rw [List.mem_singleton.1 hu]; rfl) (by omega) (by simp; omega)
  have e1 : ds.length + 1 = (ds ++ [b]).length := by simp
  have e2 : ds.map dlV ++ [.slice b.a b.d.length b.c] = (ds ++ [b]).map dlV := by simp [dlV]
  rw [e1, e2] at o
  rcases o.2 with ⟨_, hn⟩ | ⟨g, c, _, e3, _⟩
  · simp at hn
  · subst e3
    exact ⟨v1, X1, g, c, W', r1, r, o, bb1.trans ((b1.mono hs1).trans bb)⟩
theorem make_opM (w : World) (c : Nat) (hc : c ≤ 1099511627776) : ∃ w', (Instr.makeSlice 24 (.int .i64 0) (.int .i64 (c : Int))).run Try.prog w = .ok (.slice (some ⟨w.heap.size, 0, none⟩) 0 c) w' ∧ w'.ownsRow w.heap.size 34 3 (.slice (some ⟨w.heap.size, 0, none⟩) 0 c) ([] : List Dop).length (opsV []) ∧ Below w.heap.size w w' := by
  obtain ⟨i, hi, hz, hs, hby⟩ := info_op
  obtain ⟨w', h1, h2, h3⟩ := run_make_own (P := Try.prog) w w.heap.size 24 34 i (.agg #[.int .i64 0, .int .i64 0, .string ⟨#[]⟩]) 3 Try.underlying24 hi hz hs .i64 .i64 c (by rw [hby]; omega) (by unfold maxLen; omega) (Nat.le_refl _)
  exact ⟨w', h1, h2, (Below.refl _ w).grown h3 (Nat.le_refl _) (fun k e => by cases e)⟩
/-- what stands behind each of the arguments -/
structure AsI (w : World) (x : Dl) : Prop where
  o : IsO w x.a x.d
  l : x.d.length ≤ 1048576
  t : ∀ o ∈ x.d, TbD o ∧ o.t.length ≤ 1048576
theorem spare_lit (X : World) : IsO (X.alloc (.cells #[.int .i64 2, .int .i64 0, .string ⟨#[115, 112, 97, 114, 101]⟩, .int .i64 3, .int .i64 77, .string ⟨#[]⟩] 34)) (some ⟨X.heap.size, 0, none⟩) spare := lit_isO X spare _ (by kernel_rfl)
theorem tkD {aq : List Dl} {k : Nat} (hk : k < aq.length) : (aq.take (k + 1)).map (·.d) = (aq.take k).map (·.d) ++ [(aq.getD k dlZ).d] := take_mapD hk
theorem lenM {aq : List Dl} {k : Nat} (hk : k < aq.length) (h : aq.length ≤ 1048577) : (((aq.take k).map (·.d)).length + 1) * 24 ≤ 140737488355328 := by rw [List.length_map, List.length_take]; omega
end Go.Proofs.Ytjjdgfjlpkhgcaa
end

section
namespace Go.Proofs.Ytjjdgfjlpkhgcaa
open Go.ChangeShapes Go.WideShapes Go.ChangeAt Go.RowKit
attribute [local go_sem] Oper.semAt_some

theorem getD_take {α : Type} {z : α} {l : List α} {n i : Nat} (h : i < n) : (l.take n).getD i z = l.getD i z := by simp [List.getD, h]
theorem IsDx.take {w X : World} {A : Option Addr} {ds : List Dl} (h : IsDx w X A ds) (n : Nat) : IsDx w X A (ds.take n) := by
  have hi : ∀ i, i < (ds.take n).length → i < ds.length ∧ i < n := fun i hi => by rw [List.length_take] at hi; omega
  refine ⟨fun i h1 => ?_, fun i h1 => ?_⟩
  · rw [getD_take (hi i h1).2]; exact h.c i (hi i h1).1
  · rw [getD_take (hi i h1).2]; exact h.o i (hi i h1).1
theorem mine_of {w Xa wb : World} {v5 v6 : Value} {ds : List Dl} {b : Dl} (h : MiM Xa wb v5 v6 ((ds ++ [b]).map (·.d))) (hp : ∀ x ∈ ds ++ [b], AsI w x) (hl : ds.length ≤ 1048576) :
    ∃ G c aN cN a0 c0, v5 = .slice (some ⟨G, 0, none⟩) (ds.length + 1) c ∧ ds.length + 1 ≤ c ∧ G < wb.heap.size ∧ wb.cell? ⟨G, ds.length, none⟩ = some (.slice aN b.d.length cN) ∧
      (∀ X, Below wb.heap.size wb X → Calls Try.prog 28 #[.slice (some ⟨G, 0, none⟩) ds.length c, .slice aN b.d.length cN] X fun y w' => ∃ v1 v8, y = .returned (.tuple #[v1, v8, .int .i64 (cnQ ds b.d).2]) ∧ ChM X w' v1 v8 (cnQ ds b.d).1.1 (cnQ ds b.d).1.2 ∧ ChA X w' v1 v8 (cnQ ds b.d).1.2.length) ∧
      (0 < ds.length → wb.cell? ⟨G, 0, none⟩ = some (.slice a0 (ds.getD 0 dlZ).d.length c0) ∧
        (∀ X, Below wb.heap.size wb X → Calls Try.prog 29 #[.slice a0 (ds.getD 0 dlZ).d.length c0, .slice aN b.d.length cN] X fun y w' => ∃ v2 v3, y = .returned (.tuple #[v2, v3, .int .i64 (boE (ds.getD 0 dlZ).d b.d)]) ∧ w'.ownsRow X.heap.size 34 3 v2 (boA (ds.getD 0 dlZ).d b.d).length (opsV (boA (ds.getD 0 dlZ).d b.d)) ∧ w'.ownsRow X.heap.size 34 3 v3 (boB (ds.getD 0 dlZ).d b.d).length (opsV (boB (ds.getD 0 dlZ).d b.d)) ∧ NB v2 v3 ∧ Below X.heap.size X w') ∧
        (∀ X, Below wb.heap.size wb X → Calls Try.prog 30 #[.slice aN b.d.length cN, .slice a0 (ds.getD 0 dlZ).d.length c0, .bool true] X fun y w' => ∃ v, y = .returned (.tuple #[v, .int .i64 (ovE b.d (ds.getD 0 dlZ).d true)]) ∧ w'.ownsRow X.heap.size 34 3 v (ovD b.d (ds.getD 0 dlZ).d true).length (opsV (ovD b.d (ds.getD 0 dlZ).d true)) ∧ Below X.heap.size X w')) := by
  have hdL : ∀ d ∈ (ds ++ [b]).map (·.d), d.length ≤ 1048576 ∧ ∀ o ∈ d, o.t.length ≤ 140737488355328 := fun d hd => by
    obtain ⟨x, hx, rfl⟩ := List.mem_map.1 hd
    exact ⟨(hp x hx).l, fun o ho => Nat.le_trans ((hp x hx).t o ho).2 (by decide)⟩
  obtain ⟨G, c, dm, e1, e2, e3, e4, e5⟩ := h.isD (fun d hd => (hdL d hd).2) (by simp)
  have hlm : dm.length = ds.length + 1 := by have := congrArg List.length e3; simpa using this
  have hL : ((ds ++ [b]).map (·.d)).length = ds.length + 1 := by simp
  rw [hL] at e1 e2
  have hget : ∀ i, i < ds.length + 1 → (dm.getD i dlZ).d = ((ds ++ [b]).map (·.d)).getD i [] := fun i hi => by
    rw [← e3]
    simp [List.getD, List.getElem?_eq_getElem (show i < dm.length by omega)]
  have hgm : ∀ i, i < ds.length + 1 → dm.getD i dlZ ∈ dm := fun i hi => mem_dl (by omega)
  have hdm : ∀ x ∈ dm, x.d.length ≤ 1048576 ∧ ∀ o ∈ x.d, o.t.length ≤ 140737488355328 := fun x hx => hdL _ (by rw [← e3]; exact List.mem_map.2 ⟨x, hx, rfl⟩)
  have hN : (dm.getD ds.length dlZ).d = b.d := by rw [hget _ (by omega)]; simp [List.getD]
  have h0 : 0 < ds.length → (dm.getD 0 dlZ).d = (ds.getD 0 dlZ).d := fun h => by rw [hget _ (by omega)]; simp [List.getD, h]
  have cell : ∀ i, i < ds.length + 1 → wb.cell? ⟨G, i, none⟩ = some (.slice (dm.getD i dlZ).a (dm.getD i dlZ).d.length (dm.getD i dlZ).c) := fun i hi => by
    obtain ⟨G', O', eq, _, hc⟩ := e4.c i (by omega)
    cases eq
    rwa [Nat.zero_add] at hc
  have hG : G < wb.heap.size := by
    obtain ⟨G', O', eq, hg, _⟩ := e4.c 0 (by omega)
    cases eq; exact hg
  have hcn : cnQ (dm.take ds.length) b.d = cnQ ds b.d := cn_congr b.d (by rw [List.map_take, e3]; simp)
  have hlt : (dm.take ds.length).length = ds.length := by rw [List.length_take, hlm]; omega
  refine ⟨G, c, (dm.getD ds.length dlZ).a, (dm.getD ds.length dlZ).c, (dm.getD 0 dlZ).a, (dm.getD 0 dlZ).c, e1, e2, hG, ?_, fun X hX => ?_, fun hpos => ⟨?_, fun X hX => ?_, fun X hX => ?_⟩⟩
  · rw [cell _ (by omega), hN]
  · have := ChainA_at (some ⟨G, 0, none⟩) c (dm.take ds.length) (dm.getD ds.length dlZ).a (dm.getD ds.length dlZ).c b.d X ((e4.up hX).take _) (by rw [← hN]; exact (e4.o _ (by omega)).1.below hX (Nat.le_refl _)) (by rw [hlt]; omega) (by rw [← hN]; have := (hdm _ (hgm ds.length (by omega))).1; omega) (fun x hx => by
      have hx' := List.mem_of_mem_take hx
      exact ⟨Nat.le_trans (hdm x hx').1 (by decide), e5 x hx'⟩)
    rw [hlt, hcn] at this
    exact this
  · rw [cell 0 (by omega), h0 hpos]
  · have := BothA_at (dm.getD 0 dlZ).a (dm.getD 0 dlZ).c (dm.getD 0 dlZ).d (dm.getD ds.length dlZ).a (dm.getD ds.length dlZ).c (dm.getD ds.length dlZ).d X ⟨(e4.o _ (by omega)).1.below hX (Nat.le_refl _), e5 _ (hgm _ (by omega))⟩ ⟨(e4.o _ (by omega)).1.below hX (Nat.le_refl _), e5 _ (hgm _ (by omega))⟩ (hdm _ (hgm _ (by omega))).2 (hdm _ (hgm _ (by omega))).2 (Nat.le_trans (hdm _ (hgm _ (by omega))).1 (by decide)) (Nat.le_trans (hdm _ (hgm _ (by omega))).1 (by decide))
    rw [hN, h0 hpos] at this
    exact this
  · have := Over_at (dm.getD ds.length dlZ).a (dm.getD ds.length dlZ).c (dm.getD ds.length dlZ).d (dm.getD 0 dlZ).a (dm.getD 0 dlZ).c (dm.getD 0 dlZ).d true X ((e4.o _ (by omega)).1.below hX (Nat.le_refl _)) ((e4.o _ (by omega)).1.below hX (Nat.le_refl _)) (e5 _ (hgm _ (by omega))) (e5 _ (hgm _ (by omega))) (hdm _ (hgm _ (by omega))).2 (Nat.le_trans (hdm _ (hgm _ (by omega))).1 (by decide)) (Nat.le_trans (hdm _ (hgm _ (by omega))).1 (by decide))
    rw [hN, h0 hpos] at this
    exact this
theorem AlM.form {w X : World} {v : Value} {vs : List Value} {L : List (List Dop)} (h : AlM w X v vs L) (hne : 0 < L.length) : ∃ g c, v = .slice (some ⟨g, 0, none⟩) L.length c ∧ L.length ≤ c ∧ g < X.heap.size := by
  obtain ⟨g, c, e, hc, hlt⟩ := h.o.form hne
  obtain ⟨_, c', e', hle⟩ := rowD_form h.o
  rw [e] at e'
  cases e'
  exact ⟨g, c, e, hle, hlt⟩
theorem al_get {w X : World} {g c k : Nat} {vs : List Value} {L : List (List Dop)} (h : AlM w X (.slice (some ⟨g, 0, none⟩) L.length c) vs L) (hk : k < L.length) : ∃ a ck, vs.getD k undef = .slice a (L.getD k []).length ck ∧ X.cell? ⟨g, k, none⟩ = some (.slice a (L.getD k []).length ck) ∧ IsO X a (L.getD k []) ∧ (L.getD k [] = [] ∨ ∃ gk, a = some ⟨gk, 0, none⟩) := by
  have ho := h.r.2 k hk
  obtain ⟨a, ck, e1, e2, _⟩ := own_isO ho
  refine ⟨a, ck, e1, ?_, e2, ?_⟩
  · rw [(rwk_cell h.o k (by omega)).1, ← e1]
    simp [List.getD, List.getElem?_eq_getElem (show k < vs.length by rw [h.r.1]; exact hk)]
  · rcases ho.2 with ⟨_, hn⟩ | ⟨gk, _, _, e3, _⟩
    · exact .inl (List.eq_nil_of_length_eq_zero hn)
    · rw [e1] at e3
      injection e3 with e3
      exact .inr ⟨gk, e3⟩
/-- a part of the lists, as an argument -/
theorem al_isD {w X : World} {g c : Nat} {vs : List Value} {L M R : List (List Dop)} {n : Nat} (h : AlM w X (.slice (some ⟨g, 0, none⟩) n c) vs (L ++ (M ++ R))) (hn : n = (L ++ (M ++ R)).length) (ht : ∀ d ∈ M, ∀ o ∈ d, o.t.length ≤ 140737488355328) : ∃ ds : List Dl, ds.map (·.d) = M ∧ IsDx X X (some ⟨g, L.length, none⟩) ds := by
  subst hn
  have hm : ∀ i, i < M.length → L.length + i < (L ++ (M ++ R)).length := fun i hi => by simp; omega
  have hg : ∀ i, i < M.length → (L ++ (M ++ R)).getD (L.length + i) [] = M.getD i [] := fun i hi => by
    rw [getD_r (by omega), show L.length + i - L.length = i by omega, getD_l hi]
  have each : ∀ i, i < M.length → ∃ x : Dl, X.cell? ⟨g, L.length + i, none⟩ = some (.slice x.a x.d.length x.c) ∧ x.d = M.getD i [] ∧ IsO X x.a x.d := fun i hi => by
    obtain ⟨a, ck, _, e2, e3, _⟩ := al_get h (hm i hi)
    rw [hg i hi] at e2 e3
    exact ⟨⟨a, ck, M.getD i []⟩, e2, rfl, e3⟩
  let f : Nat → Dl := fun i => if hi : i < M.length then Classical.choose (each i hi) else dlZ
  have hf : ∀ i, i < M.length → X.cell? ⟨g, L.length + i, none⟩ = some (.slice (f i).a (f i).d.length (f i).c) ∧ (f i).d = M.getD i [] ∧ IsO X (f i).a (f i).d := fun i hi => by
    have := Classical.choose_spec (each i hi)
    simp only [f, hi, dif_pos]
    exact this
  have hget : ∀ i, i < M.length → ((List.range M.length).map f).getD i dlZ = f i := fun i hi => by simp [List.getD, hi]
  refine ⟨(List.range M.length).map f, ?_, ⟨fun i hi => ?_, fun i hi => ?_⟩⟩
  · apply List.ext_getElem?
    intro i
    rcases Nat.lt_or_ge i M.length with hi | hi
    · have := (hf i hi).2.1
      simp [hi, this, List.getD]
    · simp [hi]
  · have hi' : i < M.length := by simpa using hi
    have hlt : g < X.heap.size := rwk_lt h.o (g := g) rfl
    rw [hget i hi']
    exact ⟨g, L.length, rfl, hlt, (hf i hi').1⟩
  · have hi' : i < M.length := by simpa using hi
    rw [hget i hi']
    refine ⟨(hf i hi').2.2, ?_⟩
    rw [(hf i hi').2.1]
    refine ht _ ?_
    simp [List.getD, List.getElem?_eq_getElem hi']
theorem mi_get {w X : World} {g5 g6 n5 n6 c5 c6 k : Nat} {L : List (List Dop)} (h : MiM w X (.slice (some ⟨g5, 0, none⟩) n5 c5) (.slice (some ⟨g6, 0, none⟩) n6 c6) L) (hk : k < L.length) : n5 = L.length ∧ n6 = L.length ∧ ∃ g c, X.cell? ⟨g5, k, none⟩ = some (.slice (some ⟨g, 0, none⟩) (L.getD k []).length c) ∧ X.cell? ⟨g6, k, none⟩ = some (.slice (some ⟨g, 0, none⟩) ((L.getD k []).length + 2) c) ∧ IsO X (some ⟨g, 0, none⟩) (L.getD k []) ∧
    X.cell? ⟨g, (L.getD k []).length * 3, none⟩ = some (.int .i64 2) ∧ X.cell? ⟨g, (L.getD k []).length * 3 + 1, none⟩ = some (.int .i64 0) ∧ X.cell? ⟨g, (L.getD k []).length * 3 + 2, none⟩ = some (.string ⟨#[115, 112, 97, 114, 101]⟩) ∧ X.cell? ⟨g, ((L.getD k []).length + 1) * 3, none⟩ = some (.int .i64 3) ∧ X.cell? ⟨g, ((L.getD k []).length + 1) * 3 + 1, none⟩ = some (.int .i64 77) ∧ X.cell? ⟨g, ((L.getD k []).length + 1) * 3 + 2, none⟩ = some (.string ⟨#[]⟩) := by
  obtain ⟨ms, rs, h1, h2, h3, h4, h5⟩ := h.m
  obtain ⟨g, c, e1, e2⟩ := (h5 k hk).e
  have ho := (h5 k hk).o
  rw [e2] at ho
  have f5 : n5 = L.length := by
    rcases h1.2 with ⟨e, _⟩ | ⟨_, _, _, e, _⟩
    · cases e
    · cases e; rfl
  have f6 : n6 = L.length := by
    rcases h2.2 with ⟨e, _⟩ | ⟨_, _, _, e, _⟩
    · cases e
    · cases e; rfl
  subst f5 f6
  refine ⟨rfl, rfl, g, c, ?_, ?_, ?_⟩
  · rw [(rwk_cell h1 k (by omega)).1, ← e1]
    simp [List.getD, List.getElem?_eq_getElem (show k < ms.length by omega)]
  · rw [(rwk_cell h2 k (by omega)).1, ← e2]
    simp [List.getD, List.getElem?_eq_getElem (show k < rs.length by omega)]
  · generalize L.getD k [] = d at *
    obtain ⟨a, c2, e3, i3, _⟩ := own_isO (d := d ++ spare) ho
    injection e3 with e3 _ _
    subst e3
    rcases i3 with i3 | ⟨g3, o3, e4, hlt, hk3⟩
    · simp [spare] at i3
    · cases e4
      have s0 : (d ++ spare).getD d.length opZ = ⟨2, 0, [115, 112, 97, 114, 101]⟩ := by rw [getD_r (Nat.le_refl _), Nat.sub_self]; rfl
      have s1 : (d ++ spare).getD (d.length + 1) opZ = ⟨3, 77, []⟩ := by rw [getD_r (by omega), show d.length + 1 - d.length = 1 by omega]; rfl
      have ls : (d ++ spare).length = d.length + 2 := by simp [spare]
      have k0 := hk3 d.length (by omega)
      have k1 := hk3 (d.length + 1) (by omega)
      rw [s0] at k0
      rw [s1] at k1
      simp only [Nat.zero_add] at k0 k1
      refine ⟨.inr ⟨g, 0, rfl, hlt, fun j hj => ?_⟩, k0.1, k0.2.1, k0.2.2, k1.1, k1.2.1, k1.2.2⟩
      have := hk3 j (by omega)
      rwa [getD_l hj] at this
end Go.Proofs.Ytjjdgfjlpkhgcaa
end

section
namespace Go.Proofs.Ytjjdgfjlpkhgcaa
open Go.ChangeShapes Go.WideShapes Go.ChangeAt Go.RowKit
attribute [local go_sem] Oper.semAt_some

def kp (k : Nat) : Dop := ⟨1, -(k : Int) - 1, []⟩
structure WrS (L : List (List Dop)) (k i : Nat) (L' : List (List Dop)) : Prop where
  n : L'.length = L.length
  a : ∀ j, j < k → L'.getD j [] = List.replicate (L.getD j []).length (kp j)
  b : ∀ j, k < j → L'.getD j [] = L.getD j []
  c : L'.getD k [] = List.replicate i (kp k) ++ (L.getD k []).drop i
theorem WrS.zero (L : List (List Dop)) : WrS L 0 0 L := ⟨rfl, fun j h => by omega, fun _ _ => rfl, by simp⟩
theorem WrS.len {L L' : List (List Dop)} {k i : Nat} (h : WrS L k i L') (hi : i ≤ (L.getD k []).length) : (L'.getD k []).length = (L.getD k []).length := by
  rw [h.c, List.length_append, List.length_replicate, List.length_drop]; omega
theorem WrS.set {L L' : List (List Dop)} {k i : Nat} (h : WrS L k i L') (hk : k < L.length) (hi : i < (L.getD k []).length) : WrS L k (i + 1) (L'.set k ((L'.getD k []).set i (kp k))) := by
  have ho : ∀ j, j ≠ k → (L'.set k ((L'.getD k []).set i (kp k))).getD j [] = L'.getD j [] := fun j hj => by simp [List.getD, Ne.symm hj]
  refine ⟨by rw [List.length_set]; exact h.n, fun j hj => by rw [ho j (by omega)]; exact h.a j hj, fun j hj => by rw [ho j (by omega)]; exact h.b j hj, ?_⟩
  have e : (L'.set k ((L'.getD k []).set i (kp k))).getD k [] = (L'.getD k []).set i (kp k) := by
    have : k < L'.length := by rw [h.n]; exact hk
    simp [List.getD, this]
  rw [e, h.c, List.set_append_right _ _ (by simp), List.length_replicate, Nat.sub_self, List.drop_eq_getElem_cons hi, List.set_cons_zero, List.replicate_succ']
  simp
theorem WrS.next {L L' : List (List Dop)} {k : Nat} (h : WrS L k (L.getD k []).length L') : WrS L (k + 1) 0 L' := by
  refine ⟨h.n, fun j hj => ?_, fun j hj => h.b j (by omega), by rw [h.b (k + 1) (by omega)]; simp⟩
  rcases Nat.lt_or_ge j k with hl | hl
  · exact h.a j hl
  · obtain rfl : j = k := by omega
    rw [h.c, List.drop_length, List.append_nil]
theorem al_cells {w X : World} {v : Value} {vs : List Value} {L : List (List Dop)} {g n c k i : Nat} (h : AlM w X v vs L) (hk : k < L.length) (hv : vs.getD k undef = .slice (some ⟨g, 0, none⟩) n c) (hi : i < (L.getD k []).length) :
    X.cell? ⟨g, i * 3, none⟩ = some (.int .i64 ((L.getD k []).getD i opZ).k) ∧ X.cell? ⟨g, i * 3 + 1, none⟩ = some (.int .i64 ((L.getD k []).getD i opZ).n) ∧ X.cell? ⟨g, i * 3 + 2, none⟩ = some (.string (strOfNums ((L.getD k []).getD i opZ).t)) ∧
      X.frozen? ⟨g, i * 3, none⟩ = false ∧ X.frozen? ⟨g, i * 3 + 1, none⟩ = false ∧ X.frozen? ⟨g, i * 3 + 2, none⟩ = false := by
  have ho := h.r.2 k hk
  rw [hv] at ho
  have hn : n = (L.getD k []).length := by
    rcases ho.2 with ⟨e, _⟩ | ⟨_, _, _, e, _⟩
    · cases e
    · cases e; rfl
  subst hn
  have c0 := rwk_cell ho (i * 3) (by omega)
  have c1 := rwk_cell ho (i * 3 + 1) (by omega)
  have c2 := rwk_cell ho (i * 3 + 2) (by omega)
  have e0 := opsV_get (L.getD k []) i 0 hi (by omega)
  have e1 := opsV_get (L.getD k []) i 1 hi (by omega)
  have e2 := opsV_get (L.getD k []) i 2 hi (by omega)
  rw [Nat.add_zero] at e0
  exact ⟨c0.1.trans e0, c1.1.trans e1, c2.1.trans e2, c0.2, c1.2, c2.2⟩
theorem al_steps {w X : World} {v : Value} {vs : List Value} {L : List (List Dop)} {g n c k i : Nat} (h : AlM w X v vs L) (hk : k < L.length) (hv : vs.getD k undef = .slice (some ⟨g, 0, none⟩) n c) (hi : i < (L.getD k []).length) (u0 u1 : Value) :
    ∃ a b s, X.cell? ⟨g, i * 3, none⟩ = some a ∧ X.frozen? ⟨g, i * 3, none⟩ = false ∧ (X.setCell ⟨g, i * 3, none⟩ u0).cell? ⟨g, i * 3 + 1, none⟩ = some b ∧ (X.setCell ⟨g, i * 3, none⟩ u0).frozen? ⟨g, i * 3 + 1, none⟩ = false ∧ ((X.setCell ⟨g, i * 3, none⟩ u0).setCell ⟨g, i * 3 + 1, none⟩ u1).cell? ⟨g, i * 3 + 2, none⟩ = some s ∧ ((X.setCell ⟨g, i * 3, none⟩ u0).setCell ⟨g, i * 3 + 1, none⟩ u1).frozen? ⟨g, i * 3 + 2, none⟩ = false := by
  have ho := h.r.2 k hk
  rw [hv] at ho
  have hn : n = (L.getD k []).length := by
    rcases ho.2 with ⟨e, _⟩ | ⟨_, _, _, e, _⟩
    · cases e
    · cases e; rfl
  subst hn
  have e0 := opsV_get (L.getD k []) i 0 hi (by omega)
  have e1 := opsV_get (L.getD k []) i 1 hi (by omega)
  have e2 := opsV_get (L.getD k []) i 2 hi (by omega)
  rw [Nat.add_zero] at e0
  have c0 := rwk_cell ho (i * 3) (by omega)
  have h1 := rwk_set ho (i * 3) u0
  have c1 := rwk_cell h1 (i * 3 + 1) (by omega)
  have h2 := rwk_set h1 (i * 3 + 1) u1
  have c2 := rwk_cell h2 (i * 3 + 2) (by omega)
  rw [List.getElem?_set_ne (by omega)] at c1
  rw [List.getElem?_set_ne (by omega), List.getElem?_set_ne (by omega)] at c2
  exact ⟨_, _, _, c0.1.trans e0, c0.2, c1.1.trans e1, c1.2, c2.1.trans e2, c2.2⟩
theorem al_isD1 {w X : World} {g c : Nat} {vs : List Value} {L QL M : List (List Dop)} {QD : List Dop} (h : AlM w X (.slice (some ⟨g, 0, none⟩) L.length c) vs L) (hL : L = QD :: QL ++ M) (ht : ∀ d ∈ QL, ∀ o ∈ d, o.t.length ≤ 140737488355328) : ∃ ds : List Dl, ds.map (·.d) = QL ∧ IsDx X X (some ⟨g, 1, none⟩) ds := by
  have e : L = [QD] ++ (QL ++ M) := by rw [hL]; simp
  exact al_isD (L := [QD]) (R := M) (n := L.length) (by rw [← e]; exact h) (by rw [← e]) ht
theorem sameD_at {X : World} {A0 A1 : Option Addr} {c c' : Nat} {d1 d2 : List Dl} {QL : List (List Dop)} (h1 : IsDx X X A0 d1) (h2 : IsDx X X A1 d2) (e1 : d1.map (·.d) = QL) (e2 : d2.map (·.d) = QL) (pL : ∀ d ∈ QL, PdL d) (hl : QL.length ≤ 1048576) :
    Calls Try.prog 33 #[.slice A0 QL.length c, .slice A1 QL.length c'] X fun y X' => y = .returned (.bool true) ∧ Below X.heap.size X X' := by
  have l1 : d1.length = QL.length := by have := congrArg List.length e1; simpa using this
  have l2 : d2.length = QL.length := by have := congrArg List.length e2; simpa using this
  have hc := RSameAllX_at A0 A1 c c' d1 d2 X X h1 h2 (Below.refl _ _) (e1.trans e2.symm) (by omega) (fun x hx => by
    have hm : x.d ∈ d1.map (·.d) := List.mem_map.2 ⟨x, hx, rfl⟩
    rw [e1] at hm
    exact ⟨(pL _ hm).2, fun o ho => ((pL _ hm).1 o ho).1⟩)
  rw [l1, l2] at hc
  exact hc
theorem neg_w {k n : Nat} (h : k < n) (hn : n ≤ 4611686018427387904) : wrap64 (-(k : Int)) = -(k : Int) ∧ wrap64 (-(k : Int) - 1) = -(k : Int) - 1 := ⟨wrapD _ (by omega) (by omega), wrapD _ (by omega) (by omega)⟩
end Go.Proofs.Ytjjdgfjlpkhgcaa
end
