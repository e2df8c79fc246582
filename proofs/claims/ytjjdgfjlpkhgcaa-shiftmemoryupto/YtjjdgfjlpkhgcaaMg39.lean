/- Layer 13: DeltaSame's walk (written by wip/tools/dsn.py). · Layer 14: lists of deltas in rows of one's own (for ShiftMemory). · Layer 14: the rooms that ShiftMemory hands in; rows that are written. · Layer 14: rows among others that are written and grown (for ShiftMemory). -/
import Derived.Test.YtjjdgfjlpkhgcaaMg23
import Derived.Test.YtjjdgfjlpkhgcaaMg38
import Derived.Deep.Upon
import Derived.Laws.OwnMore
import Derived.Test.YtjjdgfjlpkhgcaaMg29

section
namespace Go.Proofs.Ytjjdgfjlpkhgcaa
open Go.ChangeShapes Go.WideShapes Go.ChangeAt Go.RowKit
attribute [local go_sem] Oper.semAt_some

/-- append(v, e...): v a list of one's own -/
theorem app_op (w : World) (B : Nat) (v : Value) (d : List Dop) (a0 : Option Addr) (cap : Nat) (e : List Dop) (ty : TypeId) (hv : w.ownsRow B 34 3 v d.length (opsV d)) (h : IsO w a0 e) (hb : (d.length + e.length) * 32 ≤ 140737488355328) (hB : B ≤ w.heap.size) :
    ∃ v' w', (Builtin.append_ #[24, 24] ty #[v, .slice a0 e.length cap]).run Try.prog w = .ok v' w' ∧
      w'.ownsRow B 34 3 v' (d ++ e).length (opsV (d ++ e)) ∧ w.grownBy w' v.ownBlock ∧ Below B w w' := by
  obtain ⟨i, hi, hzz, hs, hby⟩ := info_op
  by_cases he : e = []
  · subst he
    rw [List.append_nil]
    have hsrc : Src Try.prog i.size 24 (.slice a0 0 cap) 0 [] w := by
      cases a0 with
      | none => exact Src.ofNil _ Try.underlying24 cap
      | some x => exact Src.ofSlice _ Try.underlying24 x 0 cap [] (by simp) (fun j u h => by simp at h) (fun u h => by cases h)
    refine ⟨v, w, ?_, hv, ⟨rfl, rfl, rfl, Nat.le_refl _, fun _ _ _ => rfl⟩, Below.refl _ _⟩
    rcases hv.2 with ⟨rfl, _⟩ | ⟨g, c, cur, rfl, _, _, hc, _⟩
    · exact run_append_nothing (P := Try.prog) w 24 24 ty 34 i Try.underlying24 hi none 0 0 (Nat.le_refl _) _ hsrc
    · exact run_append_nothing (P := Try.prog) w 24 24 ty 34 i Try.underlying24 hi _ _ _ hc _ hsrc
  · rcases h with h | ⟨g, off, rfl, hg, hL⟩
    · exact absurd h he
    obtain ⟨v', w', hr, ho, hgr, _⟩ := run_append_own (P := Try.prog) w B 24 ty 34 i (.agg #[.int .i64 0, .int .i64 0, .string ⟨#[]⟩]) 3 32 Try.underlying24 hi hzz hs hby rfl (by decide)
      v d.length (opsV d) hv ⟨g, off, none⟩ e.length cap (opsV e) (opsV_len e)
      (fun j u hj => by
        have hjl : j < (opsV e).length := (List.getElem?_eq_some_iff.1 hj).1
        rw [opsV_len] at hjl
        have hk : j / 3 < e.length := by omega
        have q := opsV_get e (j / 3) (j % 3) hk (by omega)
        rw [show j / 3 * 3 + j % 3 = j by omega, hj] at q
        obtain ⟨c0, c1, c2⟩ := hL (j / 3) hk
        rw [Addr.add_lit]
        have hm : j % 3 = 0 ∨ j % 3 = 1 ∨ j % 3 = 2 := by omega
        rcases hm with hm | hm | hm
        · rw [hm] at q; rw [show off + j = off + j / 3 * 3 by omega]; exact c0.trans q.symm
        · rw [hm] at q; rw [show off + j = off + j / 3 * 3 + 1 by omega]; exact c1.trans q.symm
        · rw [hm] at q; rw [show off + j = off + j / 3 * 3 + 2 by omega]; exact c2.trans q.symm)
      (fun u hu => by obtain ⟨x, _, hx⟩ := List.mem_flatMap.1 hu; exact opL_cell hx) (by unfold maxLen; omega) hb hB
    refine ⟨v', w', hr, by rw [List.length_append, opsV_app]; exact ho, hgr, (Below.refl B w).grown hgr hB (fun k e => (hv.lt k e).1)⟩
theorem made_u8D (n : Nat) : (madeCells (Value.int .u8 0).cells (n * 1)).toList = (List.replicate n (0 : Int)).map (Value.int .u8) := by
  apply List.ext_getElem?
  intro i
  simp only [madeCells, Nat.mul_one, Array.toList_map, Array.toList_range, List.getElem?_map, List.map_replicate]
  rcases Nat.lt_or_ge i n with h | h
  · rw [List.getElem?_range h, List.getElem?_replicate, if_pos h]
    simp [Value.cells]
    simp [Nat.mod_one]
  · rw [List.getElem?_eq_none (by simpa using h), List.getElem?_replicate, if_neg (by omega)]
    rfl
theorem make_fullD (w : World) (n : Nat) (hn : n ≤ 5000) : ∃ w', (Instr.makeSlice 22 (.int .i64 (n : Int)) (.int .i64 (n : Int))).run Try.prog w = .ok (.slice (some ⟨w.heap.size, 0, none⟩) n n) w' ∧
    Own w' w.heap.size (.slice (some ⟨w.heap.size, 0, none⟩) n n) (List.replicate n 0) ∧ Below w.heap.size w w' := by
  obtain ⟨i, hi, hz, hs, hby⟩ := info_u8
  obtain ⟨w', h1, h2, h3⟩ := run_make_full (P := Try.prog) w w.heap.size 22 5 i _ 1 Try.underlying22 hi hz hs .i64 .i64 n (by rw [hby]; omega) (by unfold maxLen; omega) (Nat.le_refl _)
  rw [made_u8D] at h2
  exact ⟨w', h1, by unfold Own; rw [List.length_replicate]; exact h2, (Below.refl _ w).grown h3 (Nat.le_refl _) (fun k e => by cases e)⟩
theorem un_set {n i : Nat} (h : i < n) : (unT 0 i ++ List.replicate (n - i) (0 : Int)).set i (128 + (i : Int)) = unT 0 (i + 1) ++ List.replicate (n - (i + 1)) 0 := by
  rw [unT_sn, Nat.zero_add, show n - i = (n - (i + 1)) + 1 by omega, List.replicate_succ, List.set_append_right _ _ (by rw [unT_len]; exact Nat.le_refl _), unT_len, Nat.sub_self, List.set_cons_zero]
  simp
/-- Valid, Changes, Of, Canon in plain lists -/
theorem ChangesO_at (a : Option Addr) (c : Nat) (d : List Dop) (w : World) (h : IsO w a d) (hl : d.length ≤ 4611686018427387904) :
    Calls Try.prog 15 #[.slice a d.length c] w fun y w' => ∃ a' c', y = .returned (.tuple #[.slice a' (chD d).1.length c', .int .i64 (chD d).2]) ∧ IsO w' a' (chD d).1 ∧ Below w.heap.size w w' :=
  (Changes_at a c d w h hl).mono fun y w' ⟨v, e, ho, x⟩ => by
    obtain ⟨a', c', rfl, hi, _⟩ := own_isOC ho
    exact ⟨a', c', e, hi, x⟩
theorem OfO_at (a : Option Addr) (c : Nat) (n : Int) (cs : List Dop) (E : Int) (w : World) (h : IsO w a cs) (hl : cs.length ≤ 4398046511104) (hE : ErrC n cs E) :
    Calls Try.prog 16 #[.int .i64 n, .slice a cs.length c] w fun y w' => ∃ a' c', y = .returned (.tuple #[.slice a' (ofD n cs E).1.length c', .int .i64 (ofD n cs E).2]) ∧ IsO w' a' (ofD n cs E).1 ∧ Below w.heap.size w w' :=
  (Of_atD a c n cs E w h hl hE).mono fun y w' ⟨v, e, ho, x⟩ => by
    obtain ⟨a', c', rfl, hi, _⟩ := own_isOC ho
    exact ⟨a', c', e, hi, x⟩
theorem CanonO_at (a : Option Addr) (c : Nat) (d : List Dop) (w : World) (h : IsO w a d) (hl : d.length ≤ 4611686018427387904) :
    Calls Try.prog 14 #[.slice a d.length c] w fun y w' => ∃ a' c', y = .returned (.tuple #[.slice a' (canD d).1.length c', .int .i64 (canD d).2]) ∧ IsO w' a' (canD d).1 ∧ Below w.heap.size w w' :=
  (Canon_at a c d w h hl).mono fun y w' ⟨v, e, ho, x⟩ => by
    obtain ⟨a', c', rfl, hi, _⟩ := own_isOC ho
    exact ⟨a', c', e, hi, x⟩
theorem canD_val {d : List Dop} (hv : valB d = true) (h : Can d) : canD d = (d, 0) := by
  have hk := (valB_nn hv).2
  have h1 : d.all knB = true := List.all_eq_true.2 fun o ho => by
    rcases h.p o ho with ⟨q | q, q2, _⟩ | ⟨q, q2, _⟩ <;> simp [knB, q] <;> omega
  have h2 : lonB d = false := decide_eq_false (by omega)
  unfold canD
  rw [h1, h2, canA_id h]
  rfl
theorem pln_tl {d : List Dop} (hv : valB d = true) : ∀ o ∈ d, o.t.length ≤ 536870912 := fun o ho => by
  have h1 := (val_rdK hv).s o ho
  have h2 := (szO_i ((val_rdK hv).p o ho)).1
  have h3 := pln_n ((val_rdK hv).p o ho)
  omega
theorem fitD_can (d : List Dop) (n : Nat) : Can (fitD d n) := canA_can _
end Go.Proofs.Ytjjdgfjlpkhgcaa
end

section
namespace Go.Proofs.Ytjjdgfjlpkhgcaa
open Go.ChangeShapes Go.WideShapes Go.ChangeAt Go.RowKit
attribute [local go_sem] Oper.semAt_some

def dlV (x : Dl) : Value := .slice x.a x.d.length x.c
theorem app_dl (W : World) (B : Nat) (v : Value) (n : Nat) (vs : List Value) (h : W.ownsRow B 24 1 v n vs) (a : Addr) (m c : Nat) (us : List Value) (hl : us.length = m) (hu : ∀ j u, us[j]? = some u → W.cell? (a.add j) = some u) (h1 : ∀ u ∈ us, u.oneCell' = true) (hb : (n + m) * 24 ≤ 140737488355328) (hB : B ≤ W.heap.size) :
    ∃ v' W', (Builtin.append_ #[57, 57] 57 #[v, .slice (some a) m c]).run Try.prog W = .ok v' W' ∧ W'.ownsRow B 24 1 v' (n + m) (vs ++ us) ∧ W.grownBy W' v.ownBlock ∧ (v'.ownBlock = v.ownBlock ∨ v'.ownBlock = some W.heap.size) ∧ Below B W W' := by
  obtain ⟨i, hi, hz, hs, hby⟩ := info_dl
  obtain ⟨v', W', hr, ho, hg, _, h5⟩ := run_append_own_at (P := Try.prog) W B 57 57 24 i (.slice none 0 0) 1 24 Try.underlying57 hi hz hs hby rfl (by decide) v n vs h a m c us (by rw [hl, Nat.mul_one]) hu h1 (by unfold maxLen; omega) hb hB
  exact ⟨v', W', hr, ho, hg, h5, (Below.refl B W).grown hg hB (fun k hk => (h.lt k hk).1)⟩
theorem app_dl0 (W : World) (B g n c c' : Nat) (vs : List Value) (h : W.ownsRow B 24 1 (.slice (some ⟨g, 0, none⟩) n c) n vs) :
    (Builtin.append_ #[57, 57] 57 #[.slice (some ⟨g, 0, none⟩) n c, .slice none 0 c']).run Try.prog W = .ok (.slice (some ⟨g, 0, none⟩) n c) W := by
  obtain ⟨i, hi, hz, hs, hby⟩ := info_dl
  have hc : n ≤ c := by
    rcases h.2 with ⟨e, _⟩ | ⟨_, _, _, e, _, _, h3, _⟩
    · cases e
    · cases e; exact h3
  have := run_append_room_src (P := Try.prog) W 57 57 57 24 i Try.underlying57 hi g 0 n c (.slice none 0 c') 0 [] (Src.ofNil _ Try.underlying57 c') hc (fun j hj => absurd hj (Nat.not_lt_zero _)) (fun j hj => absurd hj (Nat.not_lt_zero _))
  simpa [World.setCells] using this
theorem lit_dl (X : World) (us : List Value) (j : Nat) (u : Value) (h : us[j]? = some u) : (X.alloc (.cells us.toArray 24)).cell? ((⟨X.heap.size, 0, none⟩ : Addr).add j) = some u := by
  rw [Addr.add_lit, Nat.zero_add]
  refine (World.cell?_alloc_mark X _ _ (0, 0) j).trans ?_
  rw [List.getElem?_toArray]; exact h
theorem keepT {X W' : World} {B B' n m : Nat} {v u : Value} {vs xs : List Value} (h : X.ownsRow B 24 1 v n vs) (hg : X.grownBy W' v.ownBlock) (hu : X.ownsRow B' 34 3 u m xs) : W'.ownsRow B' 34 3 u m xs := rowD_on hu fun G hG => by
  obtain ⟨_, cur, hc⟩ := rowD_block hu hG
  refine hg.block G (Array.getElem?_eq_some_iff.1 hc).1 fun e => ?_
  obtain ⟨_, cur8, hc8⟩ := rowD_block h e.symm
  exact typeD_ne hc hc8 (by decide) rfl
theorem keepN {X W' : World} {B s n : Nat} {t : TypeId} {v u : Value} {xs : List Value} (hg : X.grownBy W' v.ownBlock) (hu : X.ownsRow B t s u n xs) (hn : NB u v) : W'.ownsRow B t s u n xs := rowD_on hu fun G hG => by
  obtain ⟨_, cur, hc⟩ := rowD_block hu hG
  exact hg.block G (Array.getElem?_eq_some_iff.1 hc).1 fun e => hn G hG e.symm
theorem rwk_lt {X : World} {B s n : Nat} {t : TypeId} {v : Value} {xs : List Value} (h : X.ownsRow B t s v n xs) {g : Nat} (hg : v.ownBlock = some g) : g < X.heap.size := by
  obtain ⟨_, c, hc⟩ := rowD_block h hg
  exact (Array.getElem?_eq_some_iff.1 hc).1
theorem rwk_one {X : World} {B s n : Nat} {t : TypeId} {v : Value} {xs : List Value} (h : X.ownsRow B t s v n xs) : v.oneCell' = true := by rcases h.2 with ⟨rfl, _⟩ | ⟨_, _, _, rfl, _⟩ <;> rfl
/-- lists of operations, each in a row of its own -/
def RwL (B : Nat) (X : World) (vs : List Value) (L : List (List Dop)) : Prop := vs.length = L.length ∧ ∀ i, i < L.length → X.ownsRow B 34 3 (vs.getD i undef) (L.getD i []).length (opsV (L.getD i []))
theorem getD_l {α : Type} {z : α} {a b : List α} {i : Nat} (h : i < a.length) : (a ++ b).getD i z = a.getD i z := by simp [List.getD, List.getElem?_append_left h]
theorem getD_r {α : Type} {z : α} {a b : List α} {i : Nat} (h : a.length ≤ i) : (a ++ b).getD i z = b.getD (i - a.length) z := by simp [List.getD, List.getElem?_append_right h]
theorem RwL.app {B : Nat} {X : World} {vs us : List Value} {L M : List (List Dop)} (h : RwL B X vs L) (h' : RwL B X us M) : RwL B X (vs ++ us) (L ++ M) := by
  refine ⟨by rw [List.length_append, List.length_append, h.1, h'.1], fun i hi => ?_⟩
  rcases Nat.lt_or_ge i L.length with hl | hl
  · rw [getD_l hl, getD_l (by rw [h.1]; exact hl)]; exact h.2 i hl
  · rw [getD_r hl, getD_r (by rw [h.1]; exact hl), h.1]
    exact h'.2 _ (by rw [List.length_append] at hi; omega)
theorem RwL.one {B : Nat} {X : World} {u : Value} {x : List Dop} (h : X.ownsRow B 34 3 u x.length (opsV x)) : RwL B X [u] [x] := ⟨rfl, fun i hi => by
  obtain rfl : i = 0 := by simpa using hi
  exact h⟩
theorem RwL.keep {B : Nat} {X Y : World} {us : List Value} {M : List (List Dop)} (h : RwL B X us M) (f : ∀ u m xs, X.ownsRow B 34 3 u m xs → Y.ownsRow B 34 3 u m xs) : RwL B Y us M := ⟨h.1, fun i hi => f _ _ _ (h.2 i hi)⟩
theorem RwL.mem {B : Nat} {X : World} {us : List Value} {M : List (List Dop)} (h : RwL B X us M) {u : Value} (hu : u ∈ us) : ∃ d, X.ownsRow B 34 3 u d.length (opsV d) := by
  obtain ⟨j, hj, rfl⟩ := List.getElem_of_mem hu
  refine ⟨M.getD j [], ?_⟩
  have := h.2 j (by rw [← h.1]; exact hj)
  rwa [show us.getD j undef = us[j] by simp [List.getD, List.getElem?_eq_getElem hj]] at this
theorem RwL.lower {B B' : Nat} {X : World} {us : List Value} {M : List (List Dop)} (h : RwL B X us M) (hB : B' ≤ B) : RwL B' X us M := ⟨h.1, fun i hi => own_lower (h.2 i hi) hB⟩
structure AlM (w X : World) (v : Value) (vs : List Value) (L : List (List Dop)) : Prop where
  o : X.ownsRow w.heap.size 24 1 v L.length vs
  r : RwL w.heap.size X vs L
  p : vs.Pairwise NB
  d : Below w.heap.size w X
theorem AlM.nil (w X : World) (h : Below w.heap.size w X) : AlM w X (.slice none 0 0) [] [] := ⟨World.ownsRow_nil _ _ _ _, ⟨rfl, fun i hi => by simp at hi⟩, List.Pairwise.nil, h⟩
theorem AlM.on {w X Y : World} {v : Value} {vs : List Value} {L : List (List Dop)} (h : AlM w X v vs L) (hb : Below X.heap.size X Y) : AlM w Y v vs L :=
  ⟨rowD_below h.o hb (Nat.le_refl _), h.r.keep fun _ _ _ hr => rowD_below hr hb (Nat.le_refl _), h.p, h.d.trans (hb.mono h.d.size)⟩
/-- rows that are younger share no block with older ones -/
theorem nb_age {B B' : Nat} {X Y : World} {vs us : List Value} {L M : List (List Dop)} (h : RwL B X vs L) (h' : RwL B' Y us M) (hB : X.heap.size ≤ B') : ∀ v ∈ vs, ∀ u ∈ us, NB v u := fun v hv u hu => by
  obtain ⟨d, hd⟩ := h.mem hv
  obtain ⟨e, he⟩ := h'.mem hu
  exact nb_of hd (own_lower he hB)
theorem AlM.app {w X : World} {v : Value} {vs us : List Value} {L M : List (List Dop)} {a : Addr} {c : Nat} (h : AlM w X v vs L) (hr : RwL w.heap.size X us M) (hp : us.Pairwise NB) (hx : ∀ v ∈ vs, ∀ u ∈ us, NB v u) (hu : ∀ j u, us[j]? = some u → X.cell? (a.add j) = some u) (hb : (L.length + M.length) * 24 ≤ 140737488355328) :
    ∃ v' W', (Builtin.append_ #[57, 57] 57 #[v, .slice (some a) M.length c]).run Try.prog X = .ok v' W' ∧ AlM w W' v' (vs ++ us) (L ++ M) ∧ X.grownBy W' v.ownBlock ∧ (v'.ownBlock = v.ownBlock ∨ v'.ownBlock = some X.heap.size) := by
  obtain ⟨v', W', r, o, g, e, b⟩ := app_dl X w.heap.size v L.length vs h.o a M.length c us hr.1 hu (fun u hu => by obtain ⟨d, hd⟩ := hr.mem hu; exact rwk_one hd) hb h.d.size
  refine ⟨v', W', r, ⟨by rw [List.length_append]; exact o, (h.r.app hr).keep fun _ _ _ ho => keepT h.o g ho, ?_, h.d.trans b⟩, g, e⟩
  rw [List.pairwise_append]
  exact ⟨h.p, hp, hx⟩
theorem ch_rows {w X : World} {v1 v8 : Value} {b : List Dop} {L : List (List Dop)} (h : ChM w X v1 v8 b L) (ha : ChA w X v1 v8 L.length) : ∃ vs, X.ownsRow w.heap.size 24 1 v8 L.length vs ∧ RwL w.heap.size X vs L ∧ (v1 :: vs).Pairwise NB := by
  obtain ⟨vs, a1, a2⟩ := ha
  obtain ⟨vs', h1, h2, h3⟩ := h.l
  obtain rfl := own_fun a1 h1
  exact ⟨vs, a1, ⟨h2, h3⟩, a2⟩
/-- a chain's answer is put behind the others -/
theorem al_chain {w X Y : World} {v v1 v8 : Value} {vs : List Value} {L QL : List (List Dop)} {QD : List Dop} (h : AlM w X v vs L) (hm : ChM X Y v1 v8 QD QL) (ha : ChA X Y v1 v8 QL.length) (hb : (L.length + 1 + QL.length) * 24 ≤ 140737488355328) :
    ∃ v' W1 v'' W2 us, (Builtin.append_ #[57, 57] 57 #[v, .slice (some ⟨Y.heap.size, 0, none⟩) 1 1]).run Try.prog (Y.alloc (.cells #[v1] 24)) = .ok v' W1 ∧
      (Builtin.append_ #[57, 57] 57 #[v', v8]).run Try.prog W1 = .ok v'' W2 ∧ AlM w W2 v'' (vs ++ us) (L ++ QD :: QL) := by
  obtain ⟨u8, o8, r8, p8⟩ := ch_rows hm ha
  have b1 := (Below.refl Y.heap.size Y).alloc (Nat.le_refl _) (.cells #[v1] 24)
  have h1 := (h.on hm.d).on b1
  have hwx := h.d.size
  have r1 : RwL w.heap.size (Y.alloc (.cells #[v1] 24)) [v1] [QD] := RwL.one (rowD_below (own_lower hm.b hwx) b1 (Nat.le_refl _))
  obtain ⟨v', W1, e1, m1, g1, k1⟩ := h1.app (a := ⟨Y.heap.size, 0, none⟩) (c := 1) r1 (List.pairwise_singleton _ _) (nb_age h.r (RwL.one hm.b) (Nat.le_refl _)) (fun j u hj => lit_dl Y [v1] j u hj) (by simp only [List.length_singleton]; omega)
  have f1 : ∃ g c, v' = .slice (some ⟨g, 0, none⟩) (L ++ [QD]).length c := by
    rcases m1.o.2 with ⟨_, hn⟩ | ⟨g, c, _, e, _⟩
    · simp at hn
    · exact ⟨g, c, e⟩
  have keep8 : ∀ u m xs, Y.ownsRow X.heap.size 34 3 u m xs → W1.ownsRow X.heap.size 34 3 u m xs := fun u m xs hu => keepT h1.o g1 (rowD_below hu b1 (Nat.le_refl _))
  have nb8 : NB v8 v := (nb_of h.o (rowD_below o8 (Below.refl _ _) (Nat.le_refl _))).symm
  have o8' : W1.ownsRow X.heap.size 24 1 v8 QL.length u8 := keepN g1 (rowD_below o8 b1 (Nat.le_refl _)) nb8
  rcases o8'.2 with ⟨e8, hn⟩ | ⟨g8, c8, cur, e8, _⟩
  · obtain ⟨gv, cv, rfl⟩ := f1
    have hq : QL = [] := List.eq_nil_of_length_eq_zero hn
    subst hq e8
    exact ⟨_, W1, _, W1, [v1], e1, app_dl0 W1 _ gv _ cv 0 _ m1.o, m1⟩
  · obtain ⟨v'', W2, e2, m2, _, _⟩ := m1.app (a := ⟨g8, 0, none⟩) (c := c8) (us := u8) (M := QL) ((r8.keep keep8).lower hwx) (List.pairwise_cons.1 p8).2 (fun x hx u hu => by
        rcases List.mem_append.1 hx with hx | hx
        · exact nb_age h.r r8 (Nat.le_refl _) x hx u hu
        · rw [List.mem_singleton.1 hx]; exact (List.pairwise_cons.1 p8).1 u hu) (fun j u hj => by
        subst e8
        exact o8'.cells (g := g8) rfl j u hj) (by rw [List.length_append, List.length_singleton]; omega)
    subst e8
    refine ⟨v', W1, v'', W2, [v1] ++ u8, e1, e2, ?_⟩
    rw [← List.append_assoc, show L ++ QD :: QL = L ++ [QD] ++ QL by simp]
    exact m2
/-- and three more -/
theorem al_three {w X Y : World} {v v1 v2 v3 : Value} {vs : List Value} {L : List (List Dop)} {d1 d2 d3 : List Dop} (h : AlM w X v vs L) (hb : Below X.heap.size X Y) (o1 : Y.ownsRow X.heap.size 34 3 v1 d1.length (opsV d1)) (o2 : Y.ownsRow X.heap.size 34 3 v2 d2.length (opsV d2)) (o3 : Y.ownsRow X.heap.size 34 3 v3 d3.length (opsV d3)) (n1 : NB v1 v2) (n2 : NB v1 v3) (n3 : NB v2 v3) (hl : (L.length + 3) * 24 ≤ 140737488355328) :
    ∃ v' W', (Builtin.append_ #[57, 57] 57 #[v, .slice (some ⟨Y.heap.size, 0, none⟩) 3 3]).run Try.prog (Y.alloc (.cells #[v1, v2, v3] 24)) = .ok v' W' ∧ AlM w W' v' (vs ++ [v1, v2, v3]) (L ++ [d1, d2, d3]) := by
  have b1 := (Below.refl Y.heap.size Y).alloc (Nat.le_refl _) (.cells #[v1, v2, v3] 24)
  have r0 : RwL X.heap.size Y [v1, v2, v3] [d1, d2, d3] := (RwL.one o1).app ((RwL.one o2).app (RwL.one o3))
  obtain ⟨v', W1, e1, m1, _, _⟩ := ((h.on hb).on b1).app (a := ⟨Y.heap.size, 0, none⟩) (c := 3) ((r0.keep fun _ _ _ hr => rowD_below hr b1 (Nat.le_refl _)).lower h.d.size) (by
    simp only [List.pairwise_cons, List.mem_cons, List.not_mem_nil, or_false, false_implies, implies_true, List.Pairwise.nil, and_true, forall_eq_or_imp, forall_eq]
    exact ⟨⟨n1, n2⟩, n3⟩) (nb_age h.r r0 (Nat.le_refl _)) (fun j u hj => lit_dl Y [v1, v2, v3] j u hj) hl
  exact ⟨v', W1, e1, m1⟩
end Go.Proofs.Ytjjdgfjlpkhgcaa
end

section
namespace Go.Proofs.Ytjjdgfjlpkhgcaa
open Go.ChangeShapes Go.WideShapes Go.ChangeAt Go.RowKit
attribute [local go_sem] Oper.semAt_some

/-- what stands in a room behind a list -/
def spare : List Dop := [⟨2, 0, [115, 112, 97, 114, 101]⟩, ⟨3, 77, []⟩]
/-- a room's row and its list -/
structure RmI (B : Nat) (X : World) (m r : Value) (d : List Dop) : Prop where
  e : ∃ g c, m = .slice (some ⟨g, 0, none⟩) d.length c ∧ r = .slice (some ⟨g, 0, none⟩) (d.length + 2) c
  o : X.ownsRow B 34 3 r (d ++ spare).length (opsV (d ++ spare))
structure MiM (w X : World) (v5 v6 : Value) (L : List (List Dop)) : Prop where
  m : ∃ ms rs : List Value, X.ownsRow w.heap.size 24 1 v5 L.length ms ∧ X.ownsRow w.heap.size 24 1 v6 L.length rs ∧ ms.length = L.length ∧ rs.length = L.length ∧ ∀ i, i < L.length → RmI w.heap.size X (ms.getD i undef) (rs.getD i undef) (L.getD i [])
  n : NB v5 v6
  d : Below w.heap.size w X
theorem MiM.nil (w : World) : MiM w w (.slice none 0 0) (.slice none 0 0) [] := ⟨⟨[], [], World.ownsRow_nil _ _ _ _, World.ownsRow_nil _ _ _ _, rfl, rfl, fun i hi => by simp at hi⟩, nb_nil _, Below.refl _ _⟩
theorem MiM.on {w X Y : World} {v5 v6 : Value} {L : List (List Dop)} (h : MiM w X v5 v6 L) (hb : Below X.heap.size X Y) : MiM w Y v5 v6 L := by
  obtain ⟨ms, rs, h1, h2, h3, h4, h5⟩ := h.m
  exact ⟨⟨ms, rs, rowD_below h1 hb (Nat.le_refl _), rowD_below h2 hb (Nat.le_refl _), h3, h4, fun i hi => ⟨(h5 i hi).e, rowD_below (h5 i hi).o hb (Nat.le_refl _)⟩⟩, h.n, h.d.trans (hb.mono h.d.size)⟩
/-- one more room: first the room itself is kept, then its list -/
theorem MiM.push {w X : World} {v5 v6 : Value} {L : List (List Dop)} {d : List Dop} {g c : Nat} (h : MiM w X v5 v6 L) (ho : X.ownsRow w.heap.size 34 3 (.slice (some ⟨g, 0, none⟩) (d.length + 2) c) (d ++ spare).length (opsV (d ++ spare))) (hl : (L.length + 1) * 24 ≤ 140737488355328) :
    ∃ v6' W1 v5' W2, (Builtin.append_ #[57, 57] 57 #[v6, .slice (some ⟨X.heap.size, 0, none⟩) 1 1]).run Try.prog (X.alloc (.cells #[.slice (some ⟨g, 0, none⟩) (d.length + 2) c] 24)) = .ok v6' W1 ∧
      (Builtin.append_ #[57, 57] 57 #[v5, .slice (some ⟨W1.heap.size, 0, none⟩) 1 1]).run Try.prog (W1.alloc (.cells #[.slice (some ⟨g, 0, none⟩) d.length c] 24)) = .ok v5' W2 ∧ MiM w W2 v5' v6' (L ++ [d]) := by
  obtain ⟨ms, rs, h1, h2, h3, h4, h5⟩ := h.m
  have b0 := (Below.refl X.heap.size X).alloc (Nat.le_refl _) (.cells #[.slice (some ⟨g, 0, none⟩) (d.length + 2) c] 24)
  have hw := h.d.size
  obtain ⟨v6', W1, r1, o6, g1, e6, b1⟩ := app_dl _ w.heap.size v6 L.length rs (rowD_below h2 b0 (Nat.le_refl _)) ⟨X.heap.size, 0, none⟩ 1 1 [.slice (some ⟨g, 0, none⟩) (d.length + 2) c] rfl (fun j u hj => lit_dl X _ j u hj) (fun u hu => by rw [List.mem_singleton.1 hu]; rfl) hl (by simp; omega)
  have b1' := (h.d.trans (b0.mono hw)).trans b1
  have c1 := (Below.refl W1.heap.size W1).alloc (Nat.le_refl _) (.cells #[.slice (some ⟨g, 0, none⟩) d.length c] 24)
  have hw1 := b1'.size
  have o5 : W1.ownsRow w.heap.size 24 1 v5 L.length ms := keepN g1 (rowD_below h1 b0 (Nat.le_refl _)) h.n
  have keep1 : ∀ u m xs, X.ownsRow w.heap.size 34 3 u m xs → W1.ownsRow w.heap.size 34 3 u m xs := fun u m xs hu => keepT (rowD_below h2 b0 (Nat.le_refl _)) g1 (rowD_below hu b0 (Nat.le_refl _))
  obtain ⟨v5', W2, r2, o5', g2, e5, b2⟩ := app_dl _ w.heap.size v5 L.length ms (rowD_below o5 c1 (Nat.le_refl _)) ⟨W1.heap.size, 0, none⟩ 1 1 [.slice (some ⟨g, 0, none⟩) d.length c] rfl (fun j u hj => lit_dl W1 _ j u hj) (fun u hu => by rw [List.mem_singleton.1 hu]; rfl) hl (by simp; omega)
  have n6 : NB v5 v6' := fun G hG h6 => by
    rcases e6 with e6 | e6
    · rw [e6] at h6; exact h.n G hG h6
    · rw [e6] at h6
      have := rwk_lt h1 hG
      simp at h6
      omega
  have keep2 : ∀ u m xs, X.ownsRow w.heap.size 34 3 u m xs → W2.ownsRow w.heap.size 34 3 u m xs := fun u m xs hu => keepT (rowD_below o5 c1 (Nat.le_refl _)) g2 (rowD_below (keep1 u m xs hu) c1 (Nat.le_refl _))
  refine ⟨v6', W1, v5', W2, r1, r2, ⟨⟨ms ++ [.slice (some ⟨g, 0, none⟩) d.length c], rs ++ [.slice (some ⟨g, 0, none⟩) (d.length + 2) c], ?_, ?_, by simp [h3], by simp [h4], fun i hi => ?_⟩, fun G hG h6 => ?_, b1'.trans ((c1.mono hw1).trans b2)⟩⟩
  · rw [List.length_append, List.length_singleton]; exact o5'
  · rw [List.length_append, List.length_singleton]
    exact keepN g2 (rowD_below o6 c1 (Nat.le_refl _)) n6.symm
  · rw [List.length_append, List.length_singleton] at hi
    rcases Nat.lt_or_ge i L.length with hlt | hge
    · rw [getD_l hlt, getD_l (by omega), getD_l (by omega)]
      exact ⟨(h5 i hlt).e, keep2 _ _ _ (h5 i hlt).o⟩
    · obtain rfl : i = L.length := by omega
      rw [getD_r (Nat.le_refl _), getD_r (by omega), getD_r (by omega), h3, h4, Nat.sub_self]
      exact ⟨⟨g, c, rfl, rfl⟩, keep2 _ _ _ ho⟩
  · rcases e5 with e5 | e5
    · rw [e5] at hG; exact n6 G hG h6
    · rw [e5] at hG
      have := rwk_lt o6 h6
      simp at hG
      omega
/-- the lists among the rooms, as a chain's arguments -/
theorem MiM.isD {w X : World} {v5 v6 : Value} {L : List (List Dop)} (h : MiM w X v5 v6 L) (ht : ∀ d ∈ L, ∀ o ∈ d, o.t.length ≤ 140737488355328) (hne : L ≠ []) : ∃ G c ds, v5 = .slice (some ⟨G, 0, none⟩) L.length c ∧ L.length ≤ c ∧ ds.map (·.d) = L ∧ IsDx X X (some ⟨G, 0, none⟩) ds ∧ ∀ x ∈ ds, x.d.length ≤ x.c := by
  obtain ⟨ms, rs, h1, h2, h3, h4, h5⟩ := h.m
  rcases h1.2 with ⟨_, hn⟩ | ⟨G, c, cur, e, _, hg, hc, _, _, htk⟩
  · exact absurd (List.eq_nil_of_length_eq_zero hn) hne
  subst e
  have hx : ∀ i, i < L.length → ∃ x : Dl, ms.getD i undef = dlV x ∧ x.d = L.getD i [] ∧ IsO X x.a x.d ∧ x.d.length ≤ x.c := fun i hi => by
    obtain ⟨g, c', e1, e2⟩ := (h5 i hi).e
    have ho := (h5 i hi).o
    rw [e2] at ho
    refine ⟨⟨some ⟨g, 0, none⟩, c', L.getD i []⟩, e1, rfl, ?_, ?_⟩
    · obtain ⟨a, c2, e3, i3, _⟩ := own_isO (d := L.getD i [] ++ spare) ho
      injection e3 with e3 _ _
      subst e3
      rcases i3 with i3 | ⟨g3, o3, e4, hlt, hk⟩
      · simp [spare] at i3
      · refine .inr ⟨g3, o3, e4, hlt, fun k hk' => ?_⟩
        have hk2 : k < (L.getD i []).length := hk'
        have := hk k (by rw [List.length_append]; omega)
        rwa [getD_l hk2] at this
    · rcases ho.2 with ⟨e3, _⟩ | ⟨_, _, _, e3, _, _, h6, _⟩
      · cases e3
      · injection e3 with _ _ e5
        rw [List.length_append] at h6
        show (L.getD i []).length ≤ c'
        omega
  refine ⟨G, c, (List.range L.length).map (fun i => if hi : i < L.length then (hx i hi).choose else dlZ), rfl, hc, ?_, ?_, ?_⟩
  · apply List.ext_getElem
    · simp
    · intro i h1 h2
      simp only [List.getElem_map, List.getElem_range]
      rw [dif_pos h2, (hx i h2).choose_spec.2.1]
      simp [List.getD, List.getElem?_eq_getElem h2]
  · have hlen : ((List.range L.length).map (fun i => if hi : i < L.length then (hx i hi).choose else dlZ)).length = L.length := by simp
    have hget : ∀ i (hi : i < L.length), ((List.range L.length).map (fun i => if hi : i < L.length then (hx i hi).choose else dlZ)).getD i dlZ = (hx i hi).choose := fun i hi => by
      simp [List.getD, hi]
    refine ⟨fun i hi => ?_, fun i hi => ?_⟩
    · rw [hlen] at hi
      refine ⟨G, 0, rfl, (Array.getElem?_eq_some_iff.1 hg).1, ?_⟩
      rw [hget i hi, Nat.zero_add]
      have := (rwk_cell h1 i (by omega)).1
      rw [this]
      have hl : i < ms.length := by omega
      rw [List.getElem?_eq_getElem hl]
      have e2 : ms.getD i undef = ms[i] := by simp [List.getD, List.getElem?_eq_getElem hl]
      exact congrArg some (e2.symm.trans (hx i hi).choose_spec.1)
    · rw [hlen] at hi
      rw [hget i hi]
      obtain ⟨_, q2, q3, _⟩ := (hx i hi).choose_spec
      refine ⟨q3, ?_⟩
      rw [q2]
      refine ht _ ?_
      rw [show L.getD i [] = L[i] by simp [List.getD, List.getElem?_eq_getElem hi]]
      exact List.getElem_mem hi
  · intro x hx'
    obtain ⟨i, hi, rfl⟩ := List.mem_map.1 hx'
    rw [List.mem_range] at hi
    rw [dif_pos hi]
    exact (hx i hi).choose_spec.2.2.2
end Go.Proofs.Ytjjdgfjlpkhgcaa
end

section
namespace Go.Proofs.Ytjjdgfjlpkhgcaa
open Go.ChangeShapes Go.WideShapes Go.ChangeAt Go.RowKit
attribute [local go_sem] Oper.semAt_some

/-- one row lies at the beginning of another, or they share no block -/
def Lk (u v : Value) : Prop := (∃ g c m n, u = .slice (some ⟨g, 0, none⟩) m c ∧ v = .slice (some ⟨g, 0, none⟩) n c ∧ m ≤ n) ∨ NB u v
theorem Lk.self {W : World} {B s m : Nat} {e : TypeId} {u : Value} {us : List Value} (h : W.ownsRow B e s u m us) : Lk u u := by
  rcases h.2 with ⟨rfl, _⟩ | ⟨g, c, _, rfl, _⟩
  · exact .inr (nb_nil _)
  · exact .inl ⟨g, c, m, m, rfl, rfl, Nat.le_refl _⟩
theorem row_lk {W W' : World} {B s m n : Nat} {e : TypeId} {u v : Value} {us xs : List Value} (h : W.ownsRow B e s u m us) (hv : W.ownsRow B e s v n xs) (hl : Lk u v) (hv' : W'.ownsRow B e s v n xs) (hg : W.grownBy W' v.ownBlock) : W'.ownsRow B e s u m us := by
  rcases hl with ⟨g, c, m', n', rfl, rfl, hmn⟩ | hl
  · rcases h.2 with ⟨e1, _⟩ | ⟨_, _, cur, e1, hb, hg1, hn1, hm1, hs1, ht1⟩
    · cases e1
    · cases e1
      rcases hv.2 with ⟨e2, _⟩ | ⟨_, _, cur2, e2, _, hg2, _, _, _, ht2⟩
      · cases e2
      · cases e2
        rw [hg1] at hg2
        cases hg2
        rcases hv'.2 with ⟨e3, _⟩ | ⟨_, _, cur3, e3, _, hg3, _, _, hs3, ht3⟩
        · cases e3
        · cases e3
          refine ⟨h.1, .inr ⟨g, c, cur3, rfl, hb, hg3, hn1, hm1, hs3, ?_⟩⟩
          have k := Nat.mul_le_mul_right s hmn
          have a1 := congrArg (List.take (m * s)) ht2
          have a2 := congrArg (List.take (m * s)) ht3
          rw [List.take_take, Nat.min_eq_left k] at a1 a2
          rw [a2, ← a1]; exact ht1
  · exact keepN hg h hl
theorem keepD {X W' : World} {B B' n m : Nat} {v u : Value} {vs xs : List Value} (h : X.ownsRow B 34 3 v n vs) (hg : X.grownBy W' v.ownBlock) (hu : X.ownsRow B' 24 1 u m xs) : W'.ownsRow B' 24 1 u m xs := rowD_on hu fun G hG => by
  obtain ⟨_, cur, hc⟩ := rowD_block hu hG
  refine hg.block G (Array.getElem?_eq_some_iff.1 hc).1 fun e => ?_
  obtain ⟨_, cur8, hc8⟩ := rowD_block h e.symm
  exact typeD_ne hc hc8 (by decide) rfl
/-- one more operation behind a row that others lie beside -/
theorem al_push {w X : World} {v v25 : Value} {vs : List Value} {L : List (List Dop)} {n : Nat} {ys : List Value} (a b : Int) (s : ByteArray) (h : AlM w X v vs L) (hl : ∀ u ∈ vs, Lk u v25) (ho : X.ownsRow w.heap.size 34 3 v25 n ys) (hn : n ≤ 1099511627776) :
    ∃ v' W', (Builtin.append_ #[24, 24] 24 #[v25, .slice (some ⟨X.heap.size, 0, none⟩) 1 1]).run Try.prog (X.alloc (.cells #[.int .i64 a, .int .i64 b, .string s] 34)) = .ok v' W' ∧
      AlM w W' v vs L ∧ (∀ u ∈ vs, Lk u v') ∧ ∃ ys', W'.ownsRow w.heap.size 34 3 v' (n + 1) ys' := by
  obtain ⟨i, hi, hz, hs, hby⟩ := info_op
  have b1 := (Below.refl X.heap.size X).alloc (Nat.le_refl _) (.cells #[.int .i64 a, .int .i64 b, .string s] 34)
  have ho1 := rowD_below ho b1 (Nat.le_refl _)
  have h1 := h.on b1
  obtain ⟨c0, c1, c2⟩ := three_nwD X (.int .i64 a) (.int .i64 b) (.string s) (t := 34)
  obtain ⟨v', W', hrun, hw, hk, hg, hb⟩ := push_kept (P := Try.prog) (X.alloc (.cells #[.int .i64 a, .int .i64 b, .string s] 34)) w.heap.size 24 24 34 i (.agg #[.int .i64 0, .int .i64 0, .string ⟨#[]⟩]) 3 32 Try.underlying24 hi hz hs hby rfl (by decide)
    v25 n ys ho1 ⟨X.heap.size, 0, none⟩ 1 1 [.int .i64 a, .int .i64 b, .string s] rfl
    (fun j u hj => by
      match j with
      | 0 => simp at hj; subst hj; rw [Addr.add_lit]; exact c0
      | 1 => simp at hj; subst hj; rw [Addr.add_lit]; exact c1
      | 2 => simp at hj; subst hj; rw [Addr.add_lit]; exact c2
      | j + 3 => simp at hj)
    (fun u hu => by simp at hu; rcases hu with rfl | rfl | rfl <;> rfl) (by unfold maxLen; omega) (by omega) (by simp; have := h.d.size; omega)
  refine ⟨v', W', hrun, ⟨keepD ho1 hg h1.o, ⟨h1.r.1, fun j hj => ?_⟩, h.p, h1.d.grown hg (by simp; have := h.d.size; omega) (fun k hk => (ho1.lt k hk).1)⟩, fun u hu => ?_, _, hw⟩
  · have hj' : j < vs.length := by rw [h1.r.1]; exact hj
    refine row_lk (h1.r.2 j hj) ho1 (hl _ ?_) hk hg
    rw [show vs.getD j undef = vs[j] by simp [List.getD, List.getElem?_eq_getElem hj']]
    exact List.getElem_mem hj'
  · rcases hb with ⟨g, c, e1, e2⟩ | e1 | e1
    · rcases hl u hu with ⟨g', c', m', n', f1, f2, hmn⟩ | hl
      · rw [e1] at f2
        cases f2
        exact .inl ⟨g, c, m', n + 1, f1, e2, by omega⟩
      · refine .inr fun G hG hG' => hl G hG ?_
        rw [e2] at hG'
        rw [e1]; exact hG'
    · rw [e1] at hw
      rcases hw.2 with ⟨_, e3⟩ | ⟨_, _, _, e3, _⟩
      · omega
      · cases e3
    · refine .inr fun G hG hG' => ?_
      obtain ⟨d, hd⟩ := h.r.mem hu
      have := rwk_lt hd hG
      rw [e1] at hG'
      simp at hG'
      omega
theorem opsV_set : ∀ (d : List Dop) (i : Nat) (x : Dop), i < d.length → opsV (d.set i x) = (((opsV d).set (i * 3) (.int .i64 x.k)).set (i * 3 + 1) (.int .i64 x.n)).set (i * 3 + 2) (.string (strOfNums x.t))
  | [], _, _, h => by simp at h
  | o :: d, 0, x, _ => by simp [opsV, opL]
  | o :: d, i + 1, x, h => by
    have ih := opsV_set d i x (by simpa using h)
    have e : ∀ d : List Dop, opsV (o :: d) = .int .i64 o.k :: .int .i64 o.n :: .string (strOfNums o.t) :: opsV d := fun d => by simp [opsV, opL]
    rw [List.set_cons_succ, e, e, ih, show (i + 1) * 3 = i * 3 + 1 + 1 + 1 by omega, show i * 3 + 1 + 1 + 1 + 1 = i * 3 + 1 + 1 + 1 + 1 from rfl, show i * 3 + 1 + 1 + 1 + 2 = i * 3 + 2 + 1 + 1 + 1 by omega]
    simp only [List.set_cons_succ]
theorem set3_one {X : World} {B g n c i : Nat} {d : List Dop} {x : Dop} (h : X.ownsRow B 34 3 (.slice (some ⟨g, 0, none⟩) n c) d.length (opsV d)) (hi : i < d.length) : ((((X.setCell ⟨g, i * 3, none⟩ (.int .i64 x.k)).setCell ⟨g, i * 3 + 1, none⟩ (.int .i64 x.n)).setCell ⟨g, i * 3 + 2, none⟩ (.string (strOfNums x.t)))).ownsRow B 34 3 (.slice (some ⟨g, 0, none⟩) n c) (d.set i x).length (opsV (d.set i x)) := by
  have hn : n = d.length := by
    rcases h.2 with ⟨e, _⟩ | ⟨_, _, _, e, _⟩
    · cases e
    · cases e; rfl
  subst hn
  rw [opsV_set d i x hi, List.length_set]
  exact rwk_set (rwk_set (rwk_set h _ _) _ _) _ _
theorem set3_oth {X : World} {B s g m j1 j2 j3 : Nat} {e : TypeId} {v u1 u2 u3 : Value} {xs : List Value} (h : X.ownsRow B e s v m xs) (hn : v.ownBlock ≠ some g) : (((X.setCell ⟨g, j1, none⟩ u1).setCell ⟨g, j2, none⟩ u2).setCell ⟨g, j3, none⟩ u3).ownsRow B e s v m xs := by
  have hb : NB (.slice (some ⟨g, 0, none⟩) 0 0) v := fun G h1 h2 => by cases h1; exact hn h2
  exact rwk_other (cap := 0) (rwk_other (cap := 0) (rwk_other (cap := 0) h hb) hb) hb
theorem nb_get {vs : List Value} (h : vs.Pairwise NB) {i j : Nat} (hi : i < vs.length) (hj : j < vs.length) (hne : i ≠ j) : NB (vs.getD i undef) (vs.getD j undef) := by
  have e : ∀ k (hk : k < vs.length), vs.getD k undef = vs[k] := fun k hk => by simp [List.getD, List.getElem?_eq_getElem hk]
  rw [e i hi, e j hj]
  rcases Nat.lt_or_gt_of_ne hne with hl | hl
  · exact List.pairwise_iff_getElem.1 h i j hi hj hl
  · exact (List.pairwise_iff_getElem.1 h j i hj hi hl).symm
/-- an operation of one of the rows is written -/
theorem al_set {w X : World} {v : Value} {vs : List Value} {L : List (List Dop)} {g n c k i : Nat} {x : Dop} (h : AlM w X v vs L) (hk : k < L.length) (hv : vs.getD k undef = .slice (some ⟨g, 0, none⟩) n c) (hi : i < (L.getD k []).length) :
    AlM w (((X.setCell ⟨g, i * 3, none⟩ (.int .i64 x.k)).setCell ⟨g, i * 3 + 1, none⟩ (.int .i64 x.n)).setCell ⟨g, i * 3 + 2, none⟩ (.string (strOfNums x.t))) v vs (L.set k ((L.getD k []).set i x)) := by
  have hvk := h.r.2 k hk
  rw [hv] at hvk
  have hgw : w.heap.size ≤ g := (rowD_block hvk (G := g) rfl).1
  refine ⟨?_, ⟨by rw [List.length_set]; exact h.r.1, fun j hj => ?_⟩, h.p, ?_⟩
  · rw [List.length_set]
    refine set3_oth h.o fun e => ?_
    obtain ⟨_, cur, hc⟩ := rowD_block h.o e
    obtain ⟨_, cur8, hc8⟩ := rowD_block hvk (G := g) rfl
    exact typeD_ne hc hc8 (by decide) rfl
  · rw [List.length_set] at hj
    by_cases e : j = k
    · subst e
      rw [hv, show (L.set j ((L.getD j []).set i x)).getD j [] = (L.getD j []).set i x by simp [List.getD, hj]]
      exact set3_one hvk hi
    · rw [show (L.set k ((L.getD k []).set i x)).getD j [] = L.getD j [] by simp [List.getD, Ne.symm e]]
      refine set3_oth (h.r.2 j hj) ?_
      have := nb_get h.p (i := k) (j := j) (by rw [h.r.1]; exact hk) (by rw [h.r.1]; exact hj) (Ne.symm e) g (by rw [hv]; rfl)
      exact this
  · exact ((h.d.setCell (p := ⟨g, i * 3, none⟩) hgw _).setCell (p := ⟨g, i * 3 + 1, none⟩) hgw _).setCell (p := ⟨g, i * 3 + 2, none⟩) hgw _
theorem bo_len (d e : List Dop) : (boA d e).length ≤ 536870912 ∧ (boB d e).length ≤ 536870912 := by
  by_cases hE : boE d e = 0
  · obtain ⟨o1, o2, eA, eB⟩ := bo_ok hE
    exact ⟨by rw [eA]; exact val_len o1.v, by rw [eB]; exact val_len o2.v⟩
  · have e1 : boA d e = [] := by unfold boA; rw [if_neg hE]
    have e2 : boB d e = [] := by unfold boB; rw [if_neg hE]
    rw [e1, e2]; simp
theorem ov_lenS (d e : List Dop) (f : Bool) : (ovD d e f).length ≤ 536870912 := by
  by_cases hE : ovE d e f = 0
  · exact val_len (ov_ok hE).v
  · unfold ovD; rw [if_neg hE]; simp
theorem ch_lenS : ∀ (l : List (List Dop)) (b : List Dop), b.length ≤ 536870912 → (chL l b).1.1.length ≤ 536870912 ∧ ∀ d ∈ (chL l b).1.2, d.length ≤ 536870912
  | [], b, hb => ⟨hb, by simp [chL]⟩
  | a :: r, b, _ => by
    obtain ⟨p1, p2⟩ := bo_len a b
    simp only [chL]
    split
    · obtain ⟨q1, q2⟩ := ch_lenS r (boB a b) p2
      unfold preL
      split
      · refine ⟨q1, fun d hd => ?_⟩
        rcases List.mem_append.1 hd with hd | hd
        · rw [List.mem_singleton.1 hd]; exact p1
        · exact q2 d hd
      · exact ⟨q1, q2⟩
    · exact ⟨by simp, by simp⟩
theorem cn_lenS (ds : List Dl) (e : List Dop) : (cnQ ds e).1.1.length ≤ 536870912 ∧ ∀ d ∈ (cnQ ds e).1.2, d.length ≤ 536870912 := by
  unfold cnQ
  split
  · rename_i h
    exact ch_lenS _ _ (val_len (lk_val h))
  · exact ⟨by simp, by simp⟩
end Go.Proofs.Ytjjdgfjlpkhgcaa
end
