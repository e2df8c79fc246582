/- Layer 13, the document's: Copy, Same. · Layer 13, the document's: add. · Layer 13, the document's: add whole; Canon. · Layer 13, the document's Canon. -/
import Derived.Test.YtifpjdodignflaaRv17
import Derived.Test.YtifpjdodignflaaRv02
import Derived.Deep.AppendSrc
import Derived.RegionTactic
import Derived.ChangeAlike
import Derived.Test.YtifpjdodignflaaRv20

section
namespace Go.Proofs.Ytifpjdodignflaa
open Go.ChangeShapes Go.WideShapes Go.ChangeAt Go.RowKit
attribute [local go_sem] Oper.semAt_some

/-- append(Delta{}, d...) -/
theorem copy_op (w : World) (a0 : Option Addr) (cap : Nat) (d : List Dop) (ty : TypeId) (h : IsO w a0 d) (hz : d = [] ∨ ∃ a, a0 = some a) (hb : d.length * 32 ≤ 140737488355328) :
    ∃ v' w', (Builtin.append_ #[39, 39] ty #[.slice (some ⟨w.heap.size, 0, none⟩) 0 0, .slice a0 d.length cap]).run Try.prog (w.alloc (.cells #[] 54)) = .ok v' w' ∧
      w'.ownsRow w.heap.size 54 3 v' d.length (opsV d) ∧ Below w.heap.size w w' := by
  obtain ⟨i, hi, hzz, hs, hby⟩ := info_op
  have hb0 : Below w.heap.size w (w.alloc (.cells #[] 54)) := (Below.refl _ _).alloc (Nat.le_refl _) _
  have hown : (w.alloc (.cells #[] 54)).ownsRow w.heap.size 54 3 (.slice (some ⟨w.heap.size, 0, none⟩) 0 0) 0 [] := World.ownsRow_made w #[] 0 (Nat.le_refl _) (Nat.zero_le _) rfl
  have h' := h.below hb0 (Nat.le_refl _)
  by_cases hd : d = []
  · subst hd
    refine ⟨.slice (some ⟨w.heap.size, 0, none⟩) 0 0, _, ?_, hown, hb0⟩
    have hsrc : Src Try.prog i.size 39 (.slice a0 0 cap) 0 [] (w.alloc (.cells #[] 54)) := by
      cases a0 with
      | none => exact Src.ofNil _ Try.underlying39 cap
      | some x => exact Src.ofSlice _ Try.underlying39 x 0 cap [] (by simp) (fun j u h => by simp at h) (fun u h => by cases h)
    exact run_append_room_src (P := Try.prog) (w.alloc (.cells #[] 54)) 39 39 ty 54 i Try.underlying39 hi w.heap.size 0 0 0 (.slice a0 0 cap) 0 [] hsrc (Nat.le_refl _) (fun j hj => absurd hj (Nat.not_lt_zero _)) (fun j hj => absurd hj (Nat.not_lt_zero _))
  · rcases h' with h' | ⟨g, off, rfl, hg, hL⟩
    · exact absurd h' hd
    obtain ⟨v', w', hr, ho, hgr, _⟩ := run_append_own (P := Try.prog) (w.alloc (.cells #[] 54)) w.heap.size 39 ty 54 i (.agg #[.int .i64 0, .int .i64 0, .string ⟨#[]⟩]) 3 32 Try.underlying39 hi hzz hs hby rfl (by decide)
      _ 0 [] hown ⟨g, off, none⟩ d.length cap (opsV d) (opsV_len d)
      (fun j u hj => by
        have hjl : j < (opsV d).length := (List.getElem?_eq_some_iff.1 hj).1
        rw [opsV_len] at hjl
        have hk : j / 3 < d.length := by omega
        have e := opsV_get d (j / 3) (j % 3) hk (by omega)
        rw [show j / 3 * 3 + j % 3 = j by omega, hj] at e
        obtain ⟨c0, c1, c2⟩ := hL (j / 3) hk
        rw [Addr.add_lit]
        have hm : j % 3 = 0 ∨ j % 3 = 1 ∨ j % 3 = 2 := by omega
        rcases hm with hm | hm | hm
        · rw [hm] at e; rw [show off + j = off + j / 3 * 3 by omega]; exact c0.trans e.symm
        · rw [hm] at e; rw [show off + j = off + j / 3 * 3 + 1 by omega]; exact c1.trans e.symm
        · rw [hm] at e; rw [show off + j = off + j / 3 * 3 + 2 by omega]; exact c2.trans e.symm)
      (fun u hu => by obtain ⟨x, _, hx⟩ := List.mem_flatMap.1 hu; exact opL_cell hx) (by unfold maxLen; omega) (by omega) (by simp)
    refine ⟨v', w', hr, ?_, hb0.grown hgr (by simp) (fun k e => by cases e; exact Nat.le_refl _)⟩
    rw [Nat.zero_add, List.nil_append] at ho
    exact ho
set_option maxRecDepth 100000 in
theorem RCopy_at (a : Option Addr) (c : Nat) (d : List Dop) (w : World) (h : IsO w a d) (hz : d = [] ∨ ∃ q, a = some q) (hb : d.length * 32 ≤ 140737488355328) :
    Calls Try.prog 19 #[.slice a d.length c] w fun y w' => ∃ v, y = .returned v ∧ w'.ownsRow w.heap.size 54 3 v d.length (opsV d) ∧ Below w.heap.size w w' := by
  obtain ⟨v', w', hr, ho, hbb⟩ := copy_op w a c d 39 h hz hb
  have R2 := hide hr
  have HO := hide ho
  have HB := hide hbb
  clear hr ho hbb h hz hb
  go_enter Try.func19, Try.ntmps19
  go_wp2_with (at_builtin; refine wpList_append_known rfl _ _ 39 39 rfl _ _ rfl rfl _ _ (unhide R2) ?_; clear R2)
  refine bodyPost_ret (results_tmp rfl _ _ _) rfl ⟨v', rfl, unhide HO, unhide HB⟩
theorem getD_memE {d : List Dop} {k : Nat} (hk : k < d.length) : d.getD k opZ ∈ d := by
  rw [List.getD_eq_getElem?_getD, List.getElem?_eq_getElem hk]; exact List.getElem_mem hk
def TbD (o : Dop) : Prop := ∀ x ∈ o.t, 0 ≤ x ∧ x ≤ 255
instance decDop : DecidableEq Dop := fun a b => decidable_of_iff (a.k = b.k ∧ a.n = b.n ∧ a.t = b.t) (by cases a; cases b; simp)
theorem op_neq {x y : Dop} (hx : TbD x) (hy : TbD y) : x = y ∨ (x ≠ y ∧ (¬ x.k = y.k ∨ (x.k = y.k ∧ ¬ x.n = y.n) ∨ (x.k = y.k ∧ x.n = y.n ∧ ¬ (strOfNums x.t).toList = (strOfNums y.t).toList))) := by
  have h := str_beq hx hy
  obtain ⟨a, b, c⟩ := x
  obtain ⟨a', b', c'⟩ := y
  dsimp only at h ⊢
  by_cases h1 : a = a'
  · by_cases h2 : b = b'
    · by_cases h3 : c = c'
      · left; rw [h1, h2, h3]
      · right
        refine ⟨by simp [h1, h2, h3], .inr (.inr ⟨h1, h2, fun e => ?_⟩)⟩
        rw [e, decide_eq_false h3] at h
        simp at h
    · right; exact ⟨by simp [h1, h2], .inr (.inl ⟨h1, h2⟩)⟩
  · right; exact ⟨by simp [h1], .inl h1⟩
theorem take_eqD {d e : List Dop} {k : Nat} (hd : k < d.length) (he : k < e.length) (h : d.take k = e.take k) (hx : d.getD k opZ = e.getD k opZ) : d.take (k + 1) = e.take (k + 1) := by
  rw [List.take_add_one, List.take_add_one, h, List.getElem?_eq_getElem hd, List.getElem?_eq_getElem he]
  rw [List.getD_eq_getElem?_getD, List.getElem?_eq_getElem hd, List.getD_eq_getElem?_getD, List.getElem?_eq_getElem he] at hx
  rw [show d[k] = e[k] from hx]
set_option maxRecDepth 100000 in
set_option maxHeartbeats 2000000 in
theorem RSame_at (a : Option Addr) (c : Nat) (d : List Dop) (a' : Option Addr) (c' : Nat) (e : List Dop) (w : World) (h : IsO w a d) (h' : IsO w a' e) (hl : d.length ≤ 4611686018427387904) (_hl' : e.length ≤ 4611686018427387904) (hb : ∀ o ∈ d, TbD o) (hb' : ∀ o ∈ e, TbD o) :
    Calls Try.prog 20 #[.slice a d.length c, .slice a' e.length c'] w fun y w' => y = .returned (.bool (decide (d = e))) ∧ Below w.heap.size w w' := by
  have HO := hide fun (X : World) (hx : Below w.heap.size w X) => h.below hx (Nat.le_refl _)
  have HO' := hide fun (X : World) (hx : Below w.heap.size w X) => h'.below hx (Nat.le_refl _)
  by_cases hlen : d.length = e.length
  case neg =>
    have HV : Hid (decide (d = e) = false) := hide (decide_eq_false fun he => hlen (by rw [he]))
    have t1 : ((d.length : Int) != (e.length : Int)) = true := by simp; omega
    have t2 : ¬ d.length = e.length := hlen
    have t3 : (d.length == e.length) = false := by simpa using hlen
    clear h h' hb hb' hlen HO HO'
    rw [unhide HV]
    go_enter Try.func20, Try.ntmps20
    go_wp2_with fail
    refine bodyPost_ret (results_tmp rfl _ _ _) rfl ⟨rfl, Below.refl _ _⟩
  obtain ⟨V, hV⟩ : ∃ V, V = decide (d = e) := ⟨_, rfl⟩
  rw [← hV]
  have HV := hide hV
  have HL := hide hlen
  have HBB := hide (And.intro hb hb')
  obtain ⟨N, hN⟩ : ∃ N, N = d.length := ⟨_, rfl⟩
  have hN' : N = e.length := by rw [hN, hlen]
  have HN := hide (And.intro hN hN')
  rw [← hN, ← hN']
  have hNl : N ≤ 4611686018427387904 := by omega
  clear h h' hb hb' hlen hV hN hN' hl
  go_enter Try.func20, Try.ntmps20
  go_wp2_with fail
  go_loopw [5] (fun v5 wx => (∃ k : Nat, v5 = .int .i64 (k : Int) ∧ k ≤ N ∧ Hid (d.take k = e.take k)) ∧ Hid (Below w.heap.size w wx)) (fun v5 _ => N - (intOf v5).toNat)
  case atStart => exact ⟨⟨0, rfl, Nat.zero_le _, hide rfl⟩, hide (Below.refl _ _)⟩
  case round =>
    obtain ⟨⟨k, rfl, hk, HK⟩, HB⟩ := hrel
    by_cases hlt : k < N
    · have t1 : decide ((k : Int) < (N : Int)) = true := decide_eq_true (by omega)
      have hd1 : k < d.length := by rw [← (unhide HN).1]; exact hlt
      have he1 : k < e.length := by rw [← (unhide HN).2]; exact hlt
      obtain ⟨g, off, rfl, hg, c0, c1, c2⟩ := (unhide HO wr (unhide HB)).three hd1
      obtain ⟨g', off', rfl, hg', e0, e1, e2⟩ := (unhide HO' wr (unhide HB)).three he1
      have HQ := hide (op_neq ((unhide HBB).1 _ (getD_memE hd1)) ((unhide HBB).2 _ (getD_memE he1)))
      have HTK := hide (take_eqD hd1 he1 (unhide HK))
      have HNE : Hid (d.getD k opZ ≠ e.getD k opZ → d ≠ e) := hide fun h1 h2 => h1 (by rw [h2])
      generalize d.getD k opZ = x at *
      generalize e.getD k opZ = y at *
      obtain ⟨xk, xn, xt⟩ := x
      obtain ⟨yk, yn, yt⟩ := y
      dsimp only at c0 c1 c2 e0 e1 e2 HQ
      generalize hst : strOfNums xt = st at *
      generalize hsu : strOfNums yt = su at *
      have HST := hide hst
      have HSU := hide hsu
      clear hst hsu
      clear hd1 he1 hg hg' HK
      have HB1 := hide (unhide HB).drew
      clear HB
      rcases unhide HQ with hxy | ⟨hxy, hq⟩
      · have HK2 := hide (unhide HTK hxy)
        cases hxy
        have hst : st = su := by rw [← unhide HST, ← unhide HSU]
        subst hst
        clear HTK HNE HQ HST HSU
        go_upto_region 6 with fail
        go_region
        go_wp2_with fail
        go_roundw
        case rel => exact ⟨⟨k + 1, by go_num, hlt, HK2⟩, HB1⟩
        case measure => simp [intOf]; omega
      · have HV2 : Hid (V = false) := hide (by rw [unhide HV]; exact decide_eq_false (unhide HNE hxy))
        clear HTK HNE HQ hxy HST HSU
        rcases hq with hq | ⟨rfl, hq⟩ | ⟨rfl, rfl, hq⟩
        all_goals
          go_upto_region 6 with fail
          go_region
          go_wp2_with fail
          rw [unhide HV2]
          refine bodyPost_ret (results_tmp rfl _ _ _) rfl ⟨rfl, unhide HB1⟩
    · obtain rfl : k = N := by omega
      have t1 : decide ((k : Int) < (k : Int)) = false := decide_eq_false (by omega)
      have HV2 : Hid (V = true) := hide (by
        rw [unhide HV]
        refine decide_eq_true ?_
        have := unhide HK
        rw [(unhide HN).1, List.take_length, ← (unhide HN).1, (unhide HN).2, List.take_length] at this
        exact this)
      clear HK hk
      go_wp2_with fail
      rw [unhide HV2]
      refine bodyPost_ret (results_tmp rfl _ _ _) rfl ⟨rfl, unhide HB⟩

end Go.Proofs.Ytifpjdodignflaa
end

section
namespace Go.Proofs.Ytifpjdodignflaa
open Go.ChangeShapes Go.WideShapes Go.ChangeAt Go.RowKit
attribute [local go_sem] Oper.semAt_some

theorem rowD_set {W : World} {B g c n s : Nat} {t : TypeId} {xs : List Value} (h : W.ownsRow B t s (.slice (some ⟨g, 0, none⟩) n c) n xs) (j : Nat) (u : Value) : (W.setCell ⟨g, j, none⟩ u).ownsRow B t s (.slice (some ⟨g, 0, none⟩) n c) n (xs.set j u) := by
  have hh := h
  rcases h.2 with ⟨h0, _⟩ | ⟨g', cap', cur, hv, hb, hg, hc, hm, hs, ht⟩
  · cases h0
  · cases hv
    refine ⟨by rw [List.length_set]; exact h.1, Or.inr ⟨g, c, cur.setIfInBounds j u, rfl, hb, ?_, hc, hm, by simpa using hs, ?_⟩⟩
    · have hlt : g < W.heap.size := (Array.getElem?_eq_some_iff.1 hg).1
      simp only [World.setCell, Array.getElem?_modify, if_true, hg, Option.map_some]
      rfl
    · rw [Array.toList_setIfInBounds, List.take_set, ht]
theorem rowD_cell {W : World} {B g c n s : Nat} {t : TypeId} {xs : List Value} (h : W.ownsRow B t s (.slice (some ⟨g, 0, none⟩) n c) n xs) {j : Nat} {u : Value} (hj : xs[j]? = some u) : W.cell? ⟨g, j, none⟩ = some u ∧ W.frozen? ⟨g, j, none⟩ = false := by
  have := World.ownsRow.cells h rfl j u hj
  rw [Addr.add_lit, Nat.zero_add] at this
  refine ⟨this, ?_⟩
  rcases h.2 with ⟨h0, _⟩ | ⟨g', cap', cur, hv, _, hg, _⟩
  · cases h0
  · cases hv; simp [World.frozen?, hg]
theorem opsV_last (d : List Dop) (x : Dop) : (opsV (d ++ [x]))[d.length * 3]? = some (.int .i64 x.k) ∧ (opsV (d ++ [x]))[d.length * 3 + 1]? = some (.int .i64 x.n) ∧ (opsV (d ++ [x]))[d.length * 3 + 2]? = some (.string (strOfNums x.t)) := by
  have hl := opsV_len d
  rw [opsV_app, opsV_one]
  refine ⟨?_, ?_, ?_⟩
  · rw [List.getElem?_append_right (by omega), hl, Nat.sub_self]; rfl
  · rw [List.getElem?_append_right (by omega), hl, show d.length * 3 + 1 - d.length * 3 = 1 by omega]; rfl
  · rw [List.getElem?_append_right (by omega), hl, show d.length * 3 + 2 - d.length * 3 = 2 by omega]; rfl
theorem opsV_set1 (d : List Dop) (x : Dop) (n : Int) : (opsV (d ++ [x])).set (d.length * 3 + 1) (.int .i64 n) = opsV (d ++ [⟨x.k, n, x.t⟩]) := by
  rw [opsV_app, opsV_app, opsV_one, opsV_one, List.set_append_right _ _ (by rw [opsV_len]; omega), opsV_len, show d.length * 3 + 1 - d.length * 3 = 1 by omega]
  rfl
theorem opsV_set2 (d : List Dop) (x : Dop) (t : List Int) : (opsV (d ++ [x])).set (d.length * 3 + 2) (.string (strOfNums t)) = opsV (d ++ [⟨x.k, x.n, t⟩]) := by
  rw [opsV_app, opsV_app, opsV_one, opsV_one, List.set_append_right _ _ (by rw [opsV_len]; omega), opsV_len, show d.length * 3 + 2 - d.length * 3 = 2 by omega]
  rfl
theorem str_appD (a b : List Int) : strOfNums a ++ strOfNums b = strOfNums (a ++ b) := by
  apply ByteArray.ext
  simp [strOfNums]
/-- the operation that add writes behind the others -/
def newD (k n : Int) (t : List Int) : Dop := if k = 2 then ⟨2, 0, t⟩ else ⟨k, n, []⟩
theorem add1_nil (k n : Int) (t : List Int) : add1 [] k n t = [newD k n t] := rfl
theorem add1_other {d : List Dop} {x : Dop} {k n : Int} {t : List Int} (h : ¬ x.k = k) : add1 (d ++ [x]) k n t = d ++ [x] ++ [newD k n t] := by
  unfold add1
  simp only [List.getLast?_append, List.getLast?_singleton, Option.some_or, if_neg h]
  rfl
theorem add1_same {d : List Dop} {x : Dop} {k n : Int} {t : List Int} (h : x.k = k) : add1 (d ++ [x]) k n t = d ++ [⟨x.k, x.n + n, x.t ++ t⟩] := by
  unfold add1
  simp only [List.getLast?_append, List.getLast?_singleton, Option.some_or, if_pos h, List.dropLast_concat]
/-- nothing to add -/
def noD (k n : Int) (t : List Int) : Prop := (k = 2 ∧ t = []) ∨ (¬ k = 2 ∧ n = 0)
theorem no_tests {k n : Int} {t : List Int} (h : ¬ noD k n t) : ((k == 2) = true ∧ (k != 2) = false ∧ t.isEmpty = false) ∨ ((k == 2) = false ∧ (k != 2) = true ∧ (n == 0) = false) := by
  unfold noD at h
  by_cases hk : k = 2
  · left
    refine ⟨by simp [hk], by simp [hk], ?_⟩
    cases t with
    | nil => exact absurd (.inl ⟨hk, rfl⟩) h
    | cons a r => rfl
  · right
    refine ⟨by simp [hk], by simp [hk], ?_⟩
    have : ¬ n = 0 := fun hn => h (.inr ⟨hk, hn⟩)
    simpa using this
theorem rowD_some {X : World} {B s n : Nat} {t : TypeId} {v : Value} {xs : List Value} (h : X.ownsRow B t s v n xs) (hn : 0 < n) : ∃ g c, v = .slice (some ⟨g, 0, none⟩) n c ∧ B ≤ g := by
  rcases h.2 with ⟨_, h2⟩ | ⟨g, cap, cur, rfl, h3, _⟩
  · omega
  · exact ⟨g, cap, rfl, h3⟩
theorem last_arith {m : Nat} (hm : m ≤ 1073741824) : wrap64 (((m + 1 : Nat) : Int) - 1) = (m : Int) ∧ wrap64 ((m : Int) + 1 - 1) = (m : Int) ∧ wrap64 (m : Int) = (m : Int) ∧ decide ((m : Int) ≥ 0) = true ∧ decide (0 ≤ (m : Int)) = true ∧ (m : Int) < ((m + 1 : Nat) : Int) :=
  ⟨by rw [wrapD _ (by omega) (by omega)]; omega, by rw [wrapD _ (by omega) (by omega)]; omega, wrapD _ (by omega) (by omega), decide_eq_true (by omega), decide_eq_true (by omega), by omega⟩
theorem list_snoc {d : List Dop} (h : d ≠ []) : ∃ e x, d = e ++ [x] := ⟨d.dropLast, d.getLast h, (List.dropLast_concat_getLast h).symm⟩
end Go.Proofs.Ytifpjdodignflaa
end

section
namespace Go.Proofs.Ytifpjdodignflaa
open Go.ChangeShapes Go.WideShapes Go.ChangeAt Go.RowKit
attribute [local go_sem] Oper.semAt_some

theorem IsO.pre {W : World} {a : Option Addr} {d e : List Dop} (h : IsO W a (d ++ e)) : IsO W a d := by
  rcases h with h | ⟨g, off, rfl, hg, hc⟩
  · exact Or.inl (List.append_eq_nil_iff.1 h).1
  · refine Or.inr ⟨g, off, rfl, hg, fun k hk => ?_⟩
    have := hc k (by rw [List.length_append]; omega)
    rwa [show (d ++ e).getD k opZ = d.getD k opZ by simp [List.getD_eq_getElem?_getD, List.getElem?_append_left hk]] at this
theorem IsO.some {W : World} {a : Option Addr} {d : List Dop} (h : IsO W a d) : d = [] ∨ ∃ q, a = some q := by
  rcases h with h | ⟨g, off, rfl, _⟩
  · exact .inl h
  · exact .inr ⟨_, rfl⟩
/-- what may be added to -/
structure AdOk (d : List Dop) (n : Int) (t : List Int) : Prop where
  c : Can d
  l : d.length ≤ 1073741823
  xn : ∀ x ∈ d, x.n ≤ 2305843009213693952
  xt : ∀ x ∈ d, x.t.length ≤ 2305843009213693952
  nn : 0 ≤ n ∧ n ≤ 2305843009213693952
  tt : t.length ≤ 2305843009213693952
theorem pln_n {o : Dop} (h : Pln o) : 0 ≤ o.n := by rcases h with ⟨_, h, _⟩ | ⟨_, h, _⟩ <;> omega
theorem add1_len (d : List Dop) (k n : Int) (t : List Int) : (add1 d k n t).length ≤ d.length + 1 := by
  by_cases hd : d = []
  · subst hd; rw [add1_nil]; simp
  · obtain ⟨e, x, rfl⟩ := list_snoc hd
    by_cases hk : x.k = k
    · rw [add1_same hk]; simp
    · rw [add1_other hk]; simp
theorem no_yes {k n : Int} {t : List Int} (h : noD k n t) : ((k == 2) = true ∧ (k != 2) = false ∧ t.isEmpty = true) ∨ ((k == 2) = false ∧ (k != 2) = true ∧ (n == 0) = true) := by
  rcases h with ⟨h1, h2⟩ | ⟨h1, h2⟩
  · left; simp [h1, h2]
  · right; simp [h1, h2]
theorem addD_no {d : List Dop} {k n : Int} {t : List Int} (h : noD k n t) : addD d k n t = d := by unfold addD; unfold noD at h; rw [if_pos h]
theorem addD_one {d : List Dop} {k n : Int} {t : List Int} (h : ¬ noD k n t) (hx : ∀ x, d.getLast? = some x → ¬ (k = 2 ∧ x.k = 3)) : addD d k n t = add1 d k n t := by
  unfold addD
  unfold noD at h
  rw [if_neg h]
  cases hl : d.getLast? with
  | none => rfl
  | some x => simp only [hx x hl, if_false]
theorem addD_put {e : List Dop} {x : Dop} {n : Int} {t : List Int} (h : t ≠ []) (hx : x.k = 3) : addD (e ++ [x]) 2 n t = add1 e 2 0 t ++ [⟨3, x.n, []⟩] := by
  unfold addD
  rw [if_neg (by simp [h])]
  simp [hx]
theorem can_preD {e : List Dop} {x : Dop} (h : Can (e ++ [x])) : Can e := ⟨fun o ho => h.p o (by simp [ho]), (chn_app h.c).1⟩
end Go.Proofs.Ytifpjdodignflaa
end

section
namespace Go.Proofs.Ytifpjdodignflaa
open Go.ChangeShapes Go.WideShapes Go.ChangeAt Go.RowKit
attribute [local go_sem] Oper.semAt_some

theorem kn_cases (o : Dop) : (knB o = true ∧ decide (o.k < 1) = false ∧ decide (o.k > 3) = false ∧ decide (3 < o.k) = false ∧ ((o.k != 2) = false ∨ ((o.k != 2) = true ∧ decide (o.n < 0) = false))) ∨
    (knB o = false ∧ (decide (o.k < 1) = true ∨ (decide (o.k < 1) = false ∧ decide (o.k > 3) = true ∧ decide (3 < o.k) = true) ∨ (decide (o.k < 1) = false ∧ decide (o.k > 3) = false ∧ decide (3 < o.k) = false ∧ (o.k != 2) = true ∧ decide (o.n < 0) = true))) := by
  obtain ⟨k, n, t⟩ := o
  unfold knB
  dsimp only
  by_cases h1 : k < 1
  · right; refine ⟨?_, .inl (decide_eq_true h1)⟩; simp; omega
  by_cases h2 : 3 < k
  · right; refine ⟨?_, .inr (.inl ⟨decide_eq_false h1, decide_eq_true h2, decide_eq_true h2⟩)⟩; simp; omega
  by_cases h3 : k = 2
  · left; subst h3; simp
  by_cases h4 : n < 0
  · right; refine ⟨?_, .inr (.inr ⟨decide_eq_false h1, decide_eq_false h2, decide_eq_false h2, by simpa using h3, decide_eq_true h4⟩)⟩; simp; omega
  · left; refine ⟨?_, decide_eq_false h1, decide_eq_false h2, decide_eq_false h2, .inr ⟨by simpa using h3, decide_eq_false h4⟩⟩; simp; omega
theorem op_small {d : List Dop} {x : Dop} (h : Can d) (hx : x ∈ d) : x.n ≤ ((dA d).length : Int) ∧ x.t.length ≤ (dA d).length := by
  obtain ⟨a, b, rfl⟩ := List.append_of_mem hx
  have hp := h.p x hx
  have e : (dA (a ++ x :: b)).length = (dA a).length + ((opA x).length + (dA b).length) := by rw [dA_app, dA_cons, List.length_append, List.length_append]
  rw [e]
  rcases hp with ⟨h1 | h1, h2, h3⟩ | ⟨h1, h2, h3⟩
  · have : (opA x).length = x.n.toNat := by simp [opA, h1]
    rw [h3]; simp; omega
  · have : (opA x).length = x.n.toNat := by simp [opA, h1]
    rw [h3]; simp; omega
  · have : (opA x).length = x.t.length := by simp [opA, h1]
    omega
theorem fin_len (u : List Atm) : (dA (feedA b0 u).fin).length = u.length := by
  have := congrArg List.length (feed_atoms u wb0)
  rw [nf_len, nf_len] at this
  exact this.trans rfl
theorem adok_feed {u : List Atm} {n : Int} {t : List Int} (hu : u.length ≤ 1073741000) (hn : 0 ≤ n ∧ n ≤ 2305843009213693952) (ht : t.length ≤ 2305843009213693952) : AdOk (feedA b0 u).fin n t := by
  have hc := can_fin (wb_feed u wb0)
  have hl := fin_len u
  refine ⟨hc, ?_, fun x hx => ?_, fun x hx => ?_, hn, ht⟩
  · have := can_len hc.p; omega
  · have := (op_small hc hx).1; omega
  · have := (op_small hc hx).2; omega
/-- one more operation, as add says and as the builder does -/
theorem add_op {u : List Atm} {x : Dop} (hk : x.k = 1 ∨ x.k = 2 ∨ x.k = 3) (hn : x.k ≠ 2 → 0 ≤ x.n) : addD (feedA b0 u).fin x.k (if x.k = 2 then 0 else x.n) (if x.k = 2 then x.t else []) = (feedA b0 (u ++ opA x)).fin := by
  have hw := wb_feed u wb0
  rw [feedA_app, ← op_atoms]
  rcases hk with h | h | h
  · obtain ⟨m, hm⟩ : ∃ m : Nat, x.n = (m : Int) := ⟨x.n.toNat, by have := hn (by omega); omega⟩
    rw [op_keep h, h, hm]
    simp only [show ¬ ((1 : Int) = 2) by decide, if_false, Int.toNat_natCast]
    exact add_keep hw m
  · rw [op_put h, h]
    simp only [if_true]
    exact add_put hw x.t
  · obtain ⟨m, hm⟩ : ∃ m : Nat, x.n = (m : Int) := ⟨x.n.toNat, by have := hn (by omega); omega⟩
    rw [op_drop h, h, hm]
    simp only [show ¬ ((3 : Int) = 2) by decide, if_false, Int.toNat_natCast]
    exact add_drop hw m
theorem dA_takeS (d : List Dop) {k : Nat} (hk : k < d.length) : dA (d.take (k + 1)) = dA (d.take k) ++ opA (d.getD k opZ) := by
  rw [List.take_add_one, List.getElem?_eq_getElem hk, Option.toList_some, dA_app]
  simp [dA, List.getD_eq_getElem?_getD, List.getElem?_eq_getElem hk]
theorem frD_le (d : List Dop) (k : Nat) : frD (d.take k) ≤ frD d ∧ toD (d.take k) ≤ toD d := by
  have h1 : frD d = frD (d.take k) + frD (d.drop k) := by unfold frD; rw [← List.sum_append, ← List.map_append, List.take_append_drop]
  have h2 : toD d = toD (d.take k) + toD (d.drop k) := by unfold toD; rw [← List.sum_append, ← List.map_append, List.take_append_drop]
  omega
theorem ca_k {f m F : Nat} (hf : f ≤ 268435456) (hm : m ≤ 140737488355328) (h : F = f + m) : wrap64 ((f : Int) + (m : Int)) = (F : Int) ∧ wrap64 ((F : Int) + 0) = (F : Int) ∧ wrap64 (F : Int) = (F : Int) := by
  subst h
  exact ⟨by rw [wrapD _ (by omega) (by omega)]; omega, by rw [wrapD _ (by omega) (by omega)]; omega, wrapD _ (by omega) (by omega)⟩
theorem ca_0 {f : Nat} (hf : f ≤ 268435456) : wrap64 ((f : Int) + 0) = (f : Int) ∧ wrap64 (f : Int) = (f : Int) := ⟨by rw [wrapD _ (by omega) (by omega)]; omega, wrapD _ (by omega) (by omega)⟩
theorem big_t {m : Nat} (h : 268435456 < m) : decide ((m : Int) > 268435456) = true ∧ decide ((268435456 : Int) < (m : Int)) = true ∧ decide (268435456 < m) = true := ⟨decide_eq_true (by omega), decide_eq_true (by omega), decide_eq_true h⟩
theorem big_f {m : Nat} (h : ¬ 268435456 < m) : decide ((m : Int) > 268435456) = false ∧ decide ((268435456 : Int) < (m : Int)) = false ∧ decide (268435456 < m) = false := ⟨decide_eq_false (by omega), decide_eq_false (by omega), decide_eq_false h⟩
/-- the state of the second loop -/
structure CaI (d : List Dop) (k f t : Nat) (L : List Dop) (w : World) (a : Option Addr) (X : World) : Prop where
  ef : f = frD (d.take k)
  et : t = toD (d.take k)
  z : f ≤ 268435456 ∧ t ≤ 268435456
  l : L = (feedA b0 (dA (d.take k))).fin
  o : IsO X a L
  d : Below w.heap.size w X
end Go.Proofs.Ytifpjdodignflaa
end
