/- A list is appended to a row of the call's own, whatever its length. -/
import Derived.Test.YtpgipahlhbkjjaaDoorCertW
namespace Go.Proofs.YtpgipahlhbkjjaaDoor
open Go.ChangeShapes Go.WideShapes Go.ChangeAt Go.RowKit

theorem append_zero {W : World} {B e size n : Nat} {v : Value} {xs : List Value} {t ty : TypeId} {i : TypeInfo} (ht : Tryd.prog.underlying t = some (.slice e)) (hi : Tryd.prog.info? e = some i)
    (h : W.ownsRow B e size v n xs) (a : Option Addr) (c : Nat) : (Builtin.append_ #[t, t] ty #[v, .slice a 0 c]).run Tryd.prog W = .ok v W := by
  have hsrc : Src Tryd.prog i.size t (.slice a 0 c) 0 [] W := by
    cases a with
    | none => exact Src.ofNil W ht c
    | some x => exact Src.ofSlice W ht x 0 c [] (by simp) (fun j u h => by simp at h) (fun u h => by cases h)
  rcases h.2 with ⟨rfl, h0⟩ | ⟨g, cap, cur, rfl, hB, hg, hle, hm, hsz, htk⟩
  · simp [Builtin.append_, run_underlying ht, sizeOf, typeInfo, hi, hsrc.len, hsrc.cells]
  · have := run_append_room_src (P := Tryd.prog) W t t ty e i ht hi g 0 n cap (.slice a 0 c) 0 [] hsrc (by omega) (fun j hj => absurd hj (Nat.not_lt_zero _)) (fun j hj => absurd hj (Nat.not_lt_zero _))
    simpa [World.setCells] using this
theorem append_row {W : World} {B e size bytes n : Nat} {v z : Value} {xs : List Value} {t ty : TypeId} {i : TypeInfo} (ht : Tryd.prog.underlying t = some (.slice e)) (hi : Tryd.prog.info? e = some i) (hz : i.zero = some z) (hs : i.size = size) (hby : i.bytes = bytes) (hzc : z.cells.size = size) (hpos : 0 < size)
    (h : W.ownsRow B e size v n xs) (hB : B ≤ W.heap.size) (a : Option Addr) (m c : Nat) (ys : List Value) (hyl : ys.length = m * size) (hsrc : 0 < m → ∃ x, a = some x ∧ ∀ j u, ys[j]? = some u → W.cell? (x.add j) = some u) (hone : ∀ u ∈ ys, u.oneCell' = true)
    (hb1 : n + m ≤ 4194304) (hb2 : bytes ≤ 24) :
    ∃ v' W', (Builtin.append_ #[t, t] ty #[v, .slice a m c]).run Tryd.prog W = .ok v' W' ∧ W'.ownsRow B e size v' (n + m) (xs ++ ys) ∧ Below B W W' ∧ W.grownBy W' v.ownBlock := by
  rcases Nat.eq_zero_or_pos m with rfl | hm
  · obtain rfl : ys = [] := List.length_eq_zero_iff.1 (by simpa using hyl)
    exact ⟨v, W, append_zero ht hi h a c, by simpa using h, Below.refl _ _, ⟨rfl, rfl, rfl, Nat.le_refl _, fun _ _ _ => rfl⟩⟩
  · obtain ⟨x, rfl, hc⟩ := hsrc hm
    obtain ⟨g, k, W', hrun, ho, hg, _, _⟩ := run_append_lies (P := Tryd.prog) W t ty B e i z size bytes ht hi hz hs hby hzc hpos v n xs h x m c ys hyl hc hone hm (by unfold maxLen; omega) (Nat.le_trans (Nat.mul_le_mul hb1 hb2) (by omega)) hB _ rfl
    exact ⟨_, W', hrun, ho, (Below.refl B W).grown hg hB (fun k hk => (h.lt k hk).1), hg⟩

/-- bytes are appended to one's own -/
theorem append_bytes {W : World} {B : Nat} {v : Value} {l m : List Int} {a0 : Option Addr} {cap : Nat} (ty : TypeId) (h : Own W B v l) (hB : B ≤ W.heap.size) (hm : IsB W a0 cap m) (hb : l.length + m.length ≤ 4194304) :
    ∃ v' W', (Builtin.append_ #[26, 26] ty #[v, .slice a0 m.length cap]).run Tryd.prog W = .ok v' W' ∧ Own W' B v' (l ++ m) ∧ Below B W W' ∧ W.grownBy W' v.ownBlock := by
  obtain ⟨i, hi, hz, hs, hby⟩ := info_u8
  obtain ⟨v', W', h1, h2, h3, h4⟩ := append_row (ty := ty) Tryd.underlying26 hi hz hs hby rfl (by decide) h hB a0 m.length cap (m.map (Value.int .u8)) (by simp) (fun h0 => by
    rcases hm.2.2.1 with h' | ⟨g, off, rfl, hL⟩
    · rw [h'] at h0; cases h0
    · refine ⟨_, rfl, fun j u hj => ?_⟩
      rw [Addr.add_lit]
      obtain ⟨x, hx, rfl⟩ : ∃ x, m[j]? = some x ∧ Value.int .u8 x = u := by simpa using hj
      have hjl : j < m.length := (List.getElem?_eq_some_iff.1 hx).1
      have := (hL j hjl).1
      simpa [List.getD, hx] using this) (fun u hu => by obtain ⟨x, _, rfl⟩ := List.mem_map.1 hu; rfl) hb (by decide)
  exact ⟨v', W', h1, by simpa [Own] using h2, h3, h4⟩
theorem tcs_len (ts : List Tri) : (tcs ts).length = ts.length * 3 := by
  induction ts with
  | nil => rfl
  | cons t ts ih => simp only [tcs, List.flatMap_cons, List.length_append, List.length_cons] at ih ⊢; rw [ih]; simp [tc]; omega
theorem tcs_at {ts : List Tri} {j : Nat} {u : Value} (h : (tcs ts)[j]? = some u) : j / 3 < ts.length ∧ (tc (ts.getD (j / 3) badT))[j % 3]? = some u := by
  have hj : j < (tcs ts).length := (List.getElem?_eq_some_iff.1 h).1
  rw [tcs_len] at hj
  have hk : j / 3 < ts.length := by omega
  refine ⟨hk, ?_⟩
  rw [← tcs_get ts (j / 3) (j % 3) hk (by omega), show j / 3 * 3 + j % 3 = j by omega]
  exact h
theorem tc_one {t : Tri} {k : Nat} {u : Value} (h : (tc t)[k]? = some u) : u.oneCell' = true := by
  match k, h with
  | 0, h => simp [tc] at h; subst h; rfl
  | 1, h => simp [tc] at h; subst h; rfl
  | 2, h => simp [tc] at h; subst h; rfl
  | k + 3, h => simp [tc] at h
/-- steps are appended to one's own -/
theorem append_tris {W : World} {B : Nat} {v : Value} {ts us : List Tri} {a : Option Addr} {c : Nat} (ty : TypeId) (h : RT B v ts W) (hB : B ≤ W.heap.size) (hu : TrisAt W a us) (hb : ts.length + us.length ≤ 4194304) :
    ∃ v' W', (Builtin.append_ #[30, 30] ty #[v, .slice a us.length c]).run Tryd.prog W = .ok v' W' ∧ RT B v' (ts ++ us) W' ∧ Below B W W' ∧ W.grownBy W' v.ownBlock := by
  obtain ⟨i, hi, hz, hs, hby⟩ := info_st
  obtain ⟨v', W', h1, h2, h3, h4⟩ := append_row (ty := ty) Tryd.underlying30 hi hz hs hby rfl (by decide) h hB a us.length c (tcs us) (tcs_len us) (fun h0 => by
    rcases hu with h' | ⟨g, rfl, hg, hc⟩
    · rw [h'] at h0; cases h0
    · refine ⟨_, rfl, fun j u hj => ?_⟩
      rw [Addr.add_lit, Nat.zero_add]
      obtain ⟨hk, ht⟩ := tcs_at hj
      obtain ⟨c0, c1, c2⟩ := hc (j / 3) hk
      obtain ⟨q, hq⟩ : ∃ q, q = j / 3 := ⟨_, rfl⟩
      rw [← hq] at c0 c1 c2 ht
      rcases (show j % 3 = 0 ∨ j % 3 = 1 ∨ j % 3 = 2 by omega) with e | e | e <;> rw [e] at ht <;> simp [tc] at ht <;> subst ht
      · rw [show j = q * 3 by omega]; simpa [List.getD] using c0
      · rw [show j = q * 3 + 1 by omega]; simpa [List.getD] using c1
      · rw [show j = q * 3 + 2 by omega]; simpa [List.getD] using c2) (fun u hu' => by
    obtain ⟨j, hj⟩ := List.mem_iff_getElem?.1 hu'
    exact tc_one (tcs_at hj).2) hb (by decide)
  exact ⟨v', W', h1, by simpa [RT, tcs] using h2, h3, h4⟩

/-- rows of bytes and rows of steps lie apart -/
theorem apart_rows {W : World} {B C : Nat} {v u : Value} {l : List Int} {ts : List Tri} (h : Own W B v l) (k : RT C u ts W) : u.ownBlock = none ∨ u.ownBlock ≠ v.ownBlock := by
  rcases k.2 with ⟨rfl, _⟩ | ⟨g, cap, cur, rfl, _, hg, _⟩
  · exact Or.inl rfl
  · refine Or.inr fun e => ?_
    rcases h.2 with ⟨rfl, _⟩ | ⟨g', cap', cur', rfl, _, hg', _⟩
    · cases e
    · simp only [Value.ownBlock, Option.some.injEq] at e
      subst e
      rw [hg] at hg'
      cases hg'
theorem apart_rows' {W : World} {B C : Nat} {v u : Value} {l : List Int} {ts : List Tri} (h : Own W B v l) (k : RT C u ts W) : v.ownBlock = none ∨ v.ownBlock ≠ u.ownBlock := by
  rcases h.2 with ⟨rfl, _⟩ | ⟨g', cap', cur', rfl, _, hg', _⟩
  · exact Or.inl rfl
  · refine Or.inr fun e => ?_
    rcases k.2 with ⟨rfl, _⟩ | ⟨g, cap, cur, rfl, _, hg, _⟩
    · cases e
    · simp only [Value.ownBlock, Option.some.injEq] at e
      subst e
      rw [hg] at hg'
      cases hg'
end Go.Proofs.YtpgipahlhbkjjaaDoor
