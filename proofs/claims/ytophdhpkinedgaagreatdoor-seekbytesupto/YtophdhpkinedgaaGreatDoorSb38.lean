/- Layer 10: contracts of seek's known, by, ahead, floor, stepAt, Floor, Step. · Layer 10: contracts of seek's ending, begin, Line. -/
import Derived.Test.YtophdhpkinedgaaGreatDoorSb32
import Derived.Test.YtophdhpkinedgaaGreatDoorSb37
import Derived.Test.YtophdhpkinedgaaGreatDoorSb08

section
namespace Go.Proofs.YtophdhpkinedgaaGreatDoor
open Go.ChangeShapes Go.WideShapes Go.ChangeAt Go.RowKit
attribute [local go_sem] Oper.semAt_some

theorem own_isNS {W : World} {B : Nat} {v : Value} {l : List Int} (h : Own W B v l) (hl : ∀ x ∈ l, 0 ≤ x ∧ x ≤ 255) (hn : l.length ≤ 140737488351232) : ∃ a c, v = .slice a l.length c ∧ IsN W a c l := by
  have hc := h
  rcases h.2 with ⟨rfl, h0⟩ | ⟨g, cap, cur, rfl, _, hg, hle, _⟩
  · exact ⟨none, 0, by rw [h0], ⟨by omega, hn, Or.inl (List.length_eq_zero_iff.1 h0), hl⟩, fun _ => rfl⟩
  · exact ⟨_, cap, rfl, ⟨hle, hn, Or.inr ⟨g, 0, rfl, hc.lies hl⟩, hl⟩, fun e => by cases e⟩
theorem isB_nilS (w : World) : IsB w none 0 [] := ⟨Nat.le_refl _, by simp, Or.inl rfl, by simp⟩
theorem own_lit0S (w : World) : Own (w.alloc (.cells #[] 5)) w.heap.size (.slice (some ⟨w.heap.size, 0, none⟩) 0 0) [] :=
  ⟨rfl, Or.inr ⟨w.heap.size, 0, #[], rfl, Nat.le_refl _, World.alloc_heap_new w _, Nat.le_refl _, Nat.zero_le _, rfl, rfl⟩⟩
def kn3 (f t m : Int) : Int := if isRu f && (isRu t && isRu m) then 0 else 3
theorem known10_val (f t m : Int) : toR f 0 t m (EE []) = kn3 f t m := by
  unfold toR kn3
  have hE : EE [] = [e0] := by unfold EE; rw [spots_end (by simp)]; rfl
  by_cases h : (isRu f && (isRu t && isRu m)) = true
  · rw [if_pos h, if_pos h]
    have h := at_edge (inc_EE (l := []) (by simp) f) (j := 0) (by rw [hE]; simp) m
    rw [hE] at h ⊢
    have hb : byE f e0 = 0 := by_e0 f
    have hg : [e0].getD 0 e0 = e0 := rfl
    rw [hg, hb] at h
    exact h.2.2.1
  · rw [if_neg h, if_neg h]
set_option maxRecDepth 100000 in
theorem known10_at (f t m : Int) (w : World) (hT : Tab w) :
    Calls Tryz.prog 47 #[.int .i64 f, .int .i64 t, .int .i64 m] w fun y w' => y = .returned (.int .i64 (kn3 f t m)) ∧ Below w.heap.size w w' := by
  have k1 := To_at none 0 [] f 0 t m w (isB_nilS w) hT
  rw [known10_val, List.length_nil] at k1
  go_enter Tryz.func47, Tryz.ntmps47
  go_wp2_with fail
  refine k1.mono ?_
  rintro y w1 ⟨rfl, b1⟩
  go_wp2_with fail
  go_ret
  exact ⟨rfl, b1⟩
def byZ (u : Int) (z : Sz) : Int := if u = 1 then z.b else if u = 2 then z.r else z.u
set_option maxRecDepth 100000 in
theorem by10_at (z : Sz) (u : Int) (w : World) :
    Calls Tryz.prog 49 #[szV z, .int .i64 u] w fun y w' => y = .returned (.int .i64 (byZ u z)) ∧ Below w.heap.size w w' := by
  unfold szV
  by_cases h1 : u = 1
  · subst h1
    go_enter Tryz.func49, Tryz.ntmps49
    go_wp2
    go_ret
    exact ⟨rfl, (Below.refl _ w).alloc (Nat.le_refl _) _⟩
  · by_cases h2 : u = 2
    · subst h2
      go_enter Tryz.func49, Tryz.ntmps49
      go_wp2
      go_ret
      exact ⟨rfl, (Below.refl _ w).alloc (Nat.le_refl _) _⟩
    · have e1 : (u == 1) = false := by simpa using h1
      have e2 : (u == 2) = false := by simpa using h2
      have HB : Hid (byZ u z = z.u) := hide (by rw [byZ, if_neg h1, if_neg h2])
      clear h1 h2
      go_enter Tryz.func49, Tryz.ntmps49
      go_wp2
      go_ret
      exact ⟨ret_int (by rw [unhide HB]), (Below.refl _ w).alloc (Nat.le_refl _) _⟩
set_option maxRecDepth 100000 in
set_option maxHeartbeats 2000000 in
theorem ahead10_at (g : Nat) (o : Option Nd) (n : Nat) (w : World) (h : IsRo w g o) (hn : n ≤ (txtO o).length) (hm : (txtO o).length ≤ 268435456) (hW : Wt w) :
    Calls Tryz.prog 50 #[.func (.func 51) #[.pointer (some ⟨g, 0, none⟩)] #[], .int .i64 (n : Int)] w fun y w' => y = .returned (szV (szL ((txtO o).take n))) ∧ Below w.heap.size w w' := by
  have b0 := (Below.refl w.heap.size w).alloc (Nat.le_refl _) (.cells #[.int .i64 0, .int .i64 0, .int .i64 0, .int .i64 0] 59)
  have g0 := push_get w (.cells #[.int .i64 0, .int .i64 0, .int .i64 0, .int .i64 0] 59)
  have k := BeforeR9_at g o n _ (h.on b0) hn hm (hW.below b0)
  rw [weq9] at k
  have HK := hide k
  have HQ : Hid (szV (szL (List.take n (txtO o))) = .agg #[.int .i64 (szL (List.take n (txtO o))).b, .int .i64 (szL (List.take n (txtO o))).r, .int .i64 (szL (List.take n (txtO o))).u, .int .i64 (szL (List.take n (txtO o))).e]) := hide rfl
  clear k h hn hm hW
  go_enter Tryz.func50, Tryz.ntmps50
  go_upto_region 1 with fail
  generalize w.alloc (.cells #[.int .i64 0, .int .i64 0, .int .i64 0, .int .i64 0] 59) = w0 at *
  have HG := hide g0
  have HB := hide b0
  clear g0 b0
  generalize (szL (List.take n (txtO o))).b = zb at *
  generalize (szL (List.take n (txtO o))).r = zr at *
  generalize (szL (List.take n (txtO o))).u = zu at *
  generalize (szL (List.take n (txtO o))).e = ze at *
  generalize strOfNums (List.take 3 (List.take n (txtO o))) = zh at *
  generalize strOfNums (tail3 (List.take n (txtO o))) = zt at *
  go_wp2_with fail
  refine (unhide HK).mono ?_
  rintro y w1 ⟨rfl, x1⟩
  dsimp only
  have hg := bk9_on (unhide HG) x1
  have hd := (unhide HB).trans (x1.mono (unhide HB).size)
  have HG1 := hide hg
  have HD1 := hide hd
  clear hg hd x1 HK HG HB
  go_upto_region 2 with fail
  have x5 := (Below.refl w1.heap.size w1).alloc (Nat.le_refl _) (.cells #[.int .i64 zb, .int .i64 zr, .int .i64 zu, .int .i64 ze, .string zh, .string zt] 61)
  have g5 := push_get w1 (.cells #[.int .i64 zb, .int .i64 zr, .int .i64 zu, .int .i64 ze, .string zh, .string zt] 61)
  generalize w1.alloc (.cells #[.int .i64 zb, .int .i64 zr, .int .i64 zu, .int .i64 ze, .string zh, .string zt] 61) = w5 at *
  have hg := bk9_on (unhide HG1) x5
  have hd := (unhide HD1).trans (x5.mono (unhide HD1).size)
  generalize w1.heap.size = gW at *
  clear x5 HG1 HD1
  obtain ⟨c0, c1, c2, c3, _, _, _⟩ := cells6 g5
  obtain ⟨d0, d1, d2, d3, f⟩ := cells4 hg
  have f0 := f 0
  have f1 := f 1
  have f2 := f 2
  have f3 := f 3
  have HF := hide (box4_all hg (.int .i64 zb) (.int .i64 zr) (.int .i64 zu) (.int .i64 ze))
  have HD := hide (below4 hd (Nat.le_refl _) (.int .i64 zb) (.int .i64 zr) (.int .i64 zu) (.int .i64 ze))
  clear f hg hd g5
  go_wp2_with fail
  obtain ⟨c0, c1, c2, c3, _⟩ := cells4 (unhide HF)
  refine bodyPost_ret (v := .agg #[.int .i64 zb, .int .i64 zr, .int .i64 zu, .int .i64 ze]) (by simp [results, Tryz.results50, go_sem, c0, c1, c2, c3]) rfl ⟨by rw [unhide HQ], unhide HD⟩
set_option maxRecDepth 100000 in
set_option maxHeartbeats 2000000 in
theorem floor10_of (g : Nat) (o : Option Nd) (p lo hi N q : Nat) (L : List Int) (w : World) (hk : Calls Tryz.prog 30 #[.pointer (some ⟨g, 0, none⟩), .int .i64 (lo : Int), .int .i64 (hi : Int)] w fun y w' => ∃ v, y = .returned (.tuple #[v, .int .i64 0]) ∧ Own w' w.heap.size v L ∧ Below w.heap.size w w')
    (hb : ∀ x ∈ L, 0 ≤ x ∧ x ≤ 255) (hL : L.length ≤ 268435456) (w2 : wrap64 ((p : Int) - 4) = (p : Int) - 4) (w2' : wrap64 ((p : Int) - 4 + 1) = (p : Int) - 3) (w3 : max 0 ((p : Int) - 3) = (lo : Int))
    (w4 : wrap64 ((p : Int) + 4) = (p : Int) + 4) (w5 : wrap64 ((p : Int) + 4 - 1) = (p : Int) + 3) (w6 : min (N : Int) ((p : Int) + 3) = (hi : Int)) (w7 : (p : Int) - (lo : Int) = (q : Int)) (hq : q ≤ L.length) (w8 : wrap64 ((lo : Int) + (flr L q : Int)) = (flr (txtO o) p : Int)) (hW : Wt w) :
    Calls Tryz.prog 64 #[.func (.func 30) #[.pointer (some ⟨g, 0, none⟩)] #[], .int .i64 (N : Int), .int .i64 (p : Int)] w fun y w' => y = .returned (.int .i64 (flr (txtO o) p : Int)) ∧ Below w.heap.size w w' := by
  have e1 : floorV L ((p : Int) - (lo : Int)) = .tuple #[.int .i64 (flr L q : Int), .int .i64 0] := by
    rw [w7]
    unfold floorV
    rw [if_neg (by omega), Int.toNat_natCast]
  have HK := hide hk
  have HB := hide hb
  have HT := hide fun (X : World) (hx : Below w.heap.size w X) => (hW.below hx).1
  have HL := hide hL
  have HE := hide e1
  generalize flr (txtO o) p = fr at *
  clear hk hb hW hL hq e1 w7
  go_enter Tryz.func64, Tryz.ntmps64
  go_wp2_with fail
  refine (unhide HK).mono ?_
  rintro y wa ⟨v, rfl, hv, x1⟩
  dsimp only
  obtain ⟨a', c', rfl, hN'⟩ := own_isNS hv (unhide HB) (by have := unhide HL; omega)
  have HI := hide hN'
  clear hv hN'
  go_wp2_with fail
  refine (Floor_at a' c' _ _ wa (unhide HI).1 (unhide HT wa x1)).mono ?_
  rintro y wb ⟨rfl, x2⟩
  dsimp only
  rw [unhide HE]
  have X2 := x1.trans (x2.mono x1.size)
  go_wp2_with fail
  go_ret
  exact ⟨ret_int w8, X2⟩
theorem floor10_at (g : Nat) (o : Option Nd) (p : Nat) (w : World) (h : IsRo w g o) (hb : ∀ x ∈ txtO o, 0 ≤ x ∧ x ≤ 255) (hp : p ≤ (txtO o).length) (hm : (txtO o).length ≤ 268435456) (hW : Wt w) :
    Calls Tryz.prog 64 #[.func (.func 30) #[.pointer (some ⟨g, 0, none⟩)] #[], .int .i64 ((txtO o).length : Int), .int .i64 (p : Int)] w fun y w' => y = .returned (.int .i64 (flr (txtO o) p : Int)) ∧ Below w.heap.size w w' := by
  have hfw := flr_win (txtO o) p hp
  have hle := flr_le (txtO o) p
  have hlw : (((txtO o).drop (p - 3)).take (min (txtO o).length (p + 3) - (p - 3))).length = min (txtO o).length (p + 3) - (p - 3) := by rw [List.length_take, List.length_drop]; omega
  exact floor10_of g o p (p - 3) (min (txtO o).length (p + 3)) (txtO o).length (p - (p - 3)) _ w (BytesR9_at g o (p - 3) (min (txtO o).length (p + 3)) w h (by omega) (by omega) hm) (fun x hx => hb x (List.mem_of_mem_drop (List.mem_of_mem_take hx))) (by omega)
    (wrap_in _ (by omega) (by omega)) (by rw [wrap_in _ (by omega) (by omega)]; omega) (by omega) (wrap_in _ (by omega) (by omega)) (by rw [wrap_in _ (by omega) (by omega)]; omega) (by omega) (by omega) (by omega)
    (by rw [wrap_in _ (by omega) (by omega)]; omega) hW
set_option maxRecDepth 100000 in
set_option maxHeartbeats 2000000 in
theorem Floor10_at (g : Nat) (o : Option Nd) (p : Int) (w : World) (h : IsRo w g o) (hb : ∀ x ∈ txtO o, 0 ≤ x ∧ x ≤ 255) (hm : (txtO o).length ≤ 268435456) (hW : Wt w) :
    Calls Tryz.prog 27 #[.pointer (some ⟨g, 0, none⟩), .int .i64 p] w fun y w' => y = .returned (floorV (txtO o) p) ∧ Below w.heap.size w w' := by
  have HL := hide fun (X : World) (hx : Below w.heap.size w X) => Len9_at g o X (h.on hx)
  have HF := hide fun (X : World) (hx : Below w.heap.size w X) (q : Nat) (hq : q ≤ (txtO o).length) => floor10_at g o q X (h.on hx) hb hq hm (hW.below hx)
  clear h hb hm hW
  by_cases h0 : p < 0
  · have d0 : decide (p < 0) = true := decide_eq_true h0
    have hv : floorV (txtO o) p = .tuple #[.int .i64 0, .int .i64 2] := by unfold floorV; rw [if_pos (.inl h0)]
    rw [hv]
    clear h0 hv
    go_enter Tryz.func27, Tryz.ntmps27
    go_wp2_with fail
    refine bodyPost_ret (results_tmp2 rfl _ _ _) rfl ?_
    exact ⟨rfl, Below.refl _ _⟩
  · have d0 : decide (p < 0) = false := decide_eq_false h0
    by_cases h1 : ((txtO o).length : Int) < p
    · have d1 : decide (p > ((txtO o).length : Int)) = true := decide_eq_true h1
      have d2 : decide (((txtO o).length : Int) < p) = true := decide_eq_true h1
      have hv : floorV (txtO o) p = .tuple #[.int .i64 0, .int .i64 2] := by unfold floorV; rw [if_pos (.inr h1)]
      rw [hv]
      clear h0 h1 hv
      go_enter Tryz.func27, Tryz.ntmps27
      go_wp2_with fail
      refine (unhide HL w (Below.refl _ _)).mono ?_
      rintro y w1 ⟨rfl, x1⟩
      dsimp only
      go_wp2_with fail
      refine bodyPost_ret (results_tmp2 rfl _ _ _) rfl ?_
      exact ⟨rfl, x1⟩
    · obtain ⟨q, rfl⟩ : ∃ q : Nat, p = (q : Int) := ⟨p.toNat, by omega⟩
      have d1 : decide ((q : Int) > ((txtO o).length : Int)) = false := decide_eq_false h1
      have d2 : decide (((txtO o).length : Int) < (q : Int)) = false := decide_eq_false h1
      have d3 : decide (((txtO o).length) < q) = false := decide_eq_false (by omega)
      have hv : floorV (txtO o) (q : Int) = .tuple #[.int .i64 (flr (txtO o) q : Int), .int .i64 0] := by unfold floorV; rw [if_neg (by omega), Int.toNat_natCast]
      have HQ := hide (show q ≤ (txtO o).length by omega)
      rw [hv]
      clear h0 h1 hv
      go_enter Tryz.func27, Tryz.ntmps27
      go_wp2_with fail
      refine (unhide HL w (Below.refl _ _)).mono ?_
      rintro y w1 ⟨rfl, x1⟩
      dsimp only
      go_wp2_with fail
      refine (unhide HL w1 x1).mono ?_
      rintro y w2 ⟨rfl, x2⟩
      dsimp only
      have X2 := x1.trans (x2.mono x1.size)
      go_wp2_with fail
      refine (unhide HF w2 X2 q (unhide HQ)).mono ?_
      rintro y w3 ⟨rfl, x3⟩
      dsimp only
      have X3 := X2.trans (x3.mono X2.size)
      go_wp2_with fail
      refine bodyPost_ret (results_tmp2 rfl _ _ _) rfl ?_
      exact ⟨rfl, X3⟩

end Go.Proofs.YtophdhpkinedgaaGreatDoor
end

section
namespace Go.Proofs.YtophdhpkinedgaaGreatDoor
open Go.ChangeShapes Go.WideShapes Go.ChangeAt Go.RowKit
attribute [local go_sem] Oper.semAt_some

set_option maxRecDepth 100000 in
set_option maxHeartbeats 2000000 in
theorem endf10_at (l : List Int) (k : Int) (gk : Nat) (w : World) (hk : Cb w gk 3 (.int .i64 k)) :
    Calls Tryz.prog 91 #[weV (ofL l), .pointer (some ⟨gk, 0, none⟩)] w fun y w' => y = .returned (.bool (decide (k < endsN l))) ∧ Below w.heap.size w w' := by
  rw [weq9]
  have hz : (szL l).e = endsN l := rfl
  generalize (szL l).b = zb at *
  generalize (szL l).r = zr at *
  generalize (szL l).u = zu at *
  rw [hz]
  clear hz
  generalize strOfNums (List.take 3 l) = zh at *
  generalize strOfNums (tail3 l) = zt at *
  generalize endsN l = ze at *
  have b0 := (Below.refl w.heap.size w).alloc (Nat.le_refl _) (.cells #[.int .i64 zb, .int .i64 zr, .int .i64 zu, .int .i64 ze, .string zh, .string zt] 61)
  have g0 := push_get w (.cells #[.int .i64 zb, .int .i64 zr, .int .i64 zu, .int .i64 ze, .string zh, .string zt] 61)
  obtain ⟨c0, c1, c2, c3, c4, c5, _⟩ := cells6 g0
  have k1 := (hk.on b0).cell
  have HB := hide b0
  clear b0 g0 hk
  go_enter Tryz.func91, Tryz.ntmps91
  go_upto_region 1 with fail
  generalize w.alloc (.cells #[.int .i64 zb, .int .i64 zr, .int .i64 zu, .int .i64 ze, .string zh, .string zt] 61) = w0 at *
  go_wp2_with fail
  go_ret
  exact ⟨ret_bool rfl, unhide HB⟩
theorem bytes_of {w : World} {g : Nat} {o : Option Nd} (h : IsRo w g o) : ∀ x ∈ txtO o, 0 ≤ x ∧ x ≤ 255 := by
  obtain ⟨v, _, h2⟩ := h
  cases o with
  | none => intro x hx; cases hx
  | some t => exact IsNd.bytes h2
theorem RoVro {w : World} {g : Nat} {o : Option Nd} (h : IsRo w g o) : RoV w (.pointer (some ⟨g, 0, none⟩)) o := by
  obtain ⟨v, h1, h2⟩ := h
  exact ⟨v, Or.inr ⟨g, rfl, h1⟩, h2⟩
/-- what stands at a line's end -/
theorem end_win {T : List Int} {m : Nat} (hml : m < T.length) (hnl : isNl (T.getD m 0) = true) : nbr ((T.drop m).take (min T.length (m + 2) - m)) 0 = some (0, 0, 0, edw (T.drop m)) := by
  have he := edw_take (T.drop m) (min T.length (m + 2) - m) (by rw [List.length_drop]; omega)
  have hc : T.drop m = T.getD m 0 :: T.drop (m + 1) := by
    rw [List.drop_eq_getElem_cons hml, List.getD_eq_getElem?_getD, List.getElem?_eq_getElem hml]; rfl
  obtain ⟨q, hq⟩ : ∃ q, min T.length (m + 2) - m = q + 1 := ⟨min T.length (m + 2) - m - 1, by omega⟩
  rw [← he, hq, hc, List.take_succ_cons]
  exact nbr_end hnl
set_option maxRecDepth 100000 in
set_option maxHeartbeats 4000000 in
theorem ending10_at (g : Nat) (o : Option Nd) (k : Nat) (w : World) (h : IsRo w g o) (hk : k < (LN (txtO o)).length) (hm : (txtO o).length ≤ 268435456) (hW : Wt w) :
    Calls Tryz.prog 66 #[.pointer (some ⟨g, 0, none⟩), .int .i64 (k : Int)] w fun y w' => y = .returned (.tuple #[.int .i64 (((LN (txtO o)).getD k z4).2.2.1 : Int), .int .i64 (((LN (txtO o)).getD k z4).2.2.2 : Int)]) ∧ Below w.heap.size w w' := by
  have hb := bytes_of h
  have b0 := (Below.refl w.heap.size w).alloc (Nat.le_refl _) (.cells #[.int .i64 (k : Int)] 3)
  have k0 := Cb.new w 3 (.int .i64 (k : Int))
  obtain ⟨N, hN⟩ : ∃ N, N = (txtO o).length := ⟨_, rfl⟩
  have HR := hide fun (X : World) (hx : Below w.heap.size w X) => h.on hx
  have HW := hide fun (X : World) (hx : Below w.heap.size w X) => hW.below hx
  have HNN := hide hN
  have HN := hide (fun n => en_ln (T := txtO o) (k := k) (n := n) hk)
  have HM := hide hm
  have HY := hide hb
  have HL := hide fun (X : World) (hx : Below w.heap.size w X) => hN ▸ Len9_at g o X (h.on hx)
  have HF := hide fun (X : World) (hx : Below w.heap.size w X) (hc : Cb X w.heap.size 3 (.int .i64 (k : Int))) => First9_at (.pointer (some ⟨g, 0, none⟩)) o 91 #[.pointer (some ⟨w.heap.size, 0, none⟩)] (fun l => decide ((k : Int) < endsN l)) X (RoVro (h.on hx)) hm (hW.below hx) (enters_of Tryz.func91 (by kernel_rfl) rfl)
    (fun j Y _ hy => endf10_at _ (k : Int) w.heap.size Y (hc.on hy))
  have HB := hide fun (X : World) (hx : Below w.heap.size w X) (lo hi : Nat) (h1 : lo ≤ hi) (h2 : hi ≤ (txtO o).length) => BytesR9_at g o lo hi X (h.on hx) h1 h2 hm
  generalize hcv : (((LN (txtO o)).getD k z4).2.2.1 : Int) = cv at *
  generalize hnv : (((LN (txtO o)).getD k z4).2.2.2 : Int) = nv at *
  clear h hW hb hm hk hN hcv hnv
  go_enter Tryz.func66, Tryz.ntmps66
  go_upto_region 1 with fail
  generalize w.alloc (.cells #[.int .i64 (k : Int)] 3) = w0 at *
  go_wp2_with fail
  refine (unhide HL w0 b0).mono ?_
  rintro y w1 ⟨rfl, x1⟩
  dsimp only
  have X1 := b0.trans (x1.mono b0.size)
  have k1 := k0.on x1
  have HF1 := hide (unhide HF w1 X1 k1)
  go_wp2_with fail
  refine (unhide HF1).mono ?_
  rintro y w2 ⟨n, rfl, hn, x2⟩
  dsimp only
  have X2 := X1.trans (x2.mono (X1.size))
  obtain ⟨e1, e2⟩ := unhide HN n hn
  clear HF HF1 hn
  by_cases h0 : n < 0
  · have d0 : decide (n < 0) = true := decide_eq_true h0
    have e3 : enP (txtO o) n = ((N : Int), (N : Int)) := by unfold enP; rw [if_pos h0, unhide HNN]
    rw [e3] at e1
    have E1 := hide e1
    clear e1 e2 e3 h0
    go_wp2_with fail
    refine bodyPost_ret (results_tmp2 rfl _ _ _) rfl ?_
    refine ⟨?_, X2⟩
    have := unhide E1
    simp only [Prod.mk.injEq] at this
    rw [← this.1, ← this.2]
    rfl
  · have d0 : decide (n < 0) = false := decide_eq_false h0
    obtain ⟨m, rfl, hml, hnl⟩ := e2 (by omega)
    have e3 : enP (txtO o) ((m : Int) + 1) = ((m : Int), (m : Int) + (edw ((txtO o).drop m) : Int)) := by
      unfold enP
      rw [if_neg h0, show ((m : Int) + 1).toNat - 1 = m by omega, show (m : Int) + 1 - 1 = (m : Int) by omega]
    rw [e3] at e1
    have E1 := hide e1
    have hedw := edw_pos ((txtO o).drop m)
    have hnn := unhide HNN
    have hmm := unhide HM
    obtain ⟨d, hd⟩ : ∃ d, d = edw ((txtO o).drop m) := ⟨_, rfl⟩
    obtain ⟨hi, hhi⟩ : ∃ hi, hi = min (txtO o).length (m + 2) := ⟨_, rfl⟩
    have w1' : wrap64 (m : Int) = (m : Int) := wrap_in _ (by omega) (by omega)
    have w2' : wrap64 ((m : Int) + 2) = (m : Int) + 2 := wrap_in _ (by omega) (by omega)
    have w3' : min (N : Int) ((m : Int) + 2) = (hi : Int) := by omega
    have w4' : wrap64 ((m : Int) + (d : Int)) = (m : Int) + (d : Int) := wrap_in _ (by omega) (by omega)
    have hB := unhide HB w2 X2 m hi (by omega) (by omega)
    have hwl : (((txtO o).drop m).take (hi - m)).length ≤ 268435456 := by rw [List.length_take]; omega
    have hnb : nbr (((txtO o).drop m).take (hi - m)) 0 = some (0, 0, 0, d) := by rw [hhi, hd]; exact end_win hml hnl
    have hyb : ∀ x ∈ ((txtO o).drop m).take (hi - m), 0 ≤ x ∧ x ≤ 255 := fun x hx => unhide HY x (List.mem_of_mem_drop (List.mem_of_mem_take hx))
    generalize ((txtO o).drop m).take (hi - m) = L at *
    have HB2 := hide hB
    have HNB := hide hnb
    have HWL := hide hwl
    have HYB := hide hyb
    rw [← hd] at E1
    clear e1 e2 e3 h0 hml hnl hedw hnb hwl hyb hB hd hhi hnn hmm HB HNN
    go_wp2_with fail
    refine (unhide HB2).mono ?_
    rintro y w3 ⟨v, rfl, hv, x3⟩
    dsimp only
    have X3 := X2.trans (x3.mono X2.size)
    obtain ⟨a', c', rfl, hN'⟩ := own_isNS hv (unhide HYB) (by have := unhide HWL; omega)
    have HI := hide hN'
    clear hv hN' HB2
    go_wp2_with fail
    refine (Line_at a' c' _ 0 w3 (unhide HI).1).mono ?_
    rintro y w4 ⟨rfl, x4⟩
    dsimp only
    have X4 := X3.trans (x4.mono X3.size)
    rw [unhide HNB]
    unfold liV
    dsimp only
    go_wp2_with fail
    refine bodyPost_ret (results_tmp2 rfl _ _ _) rfl ?_
    refine ⟨?_, X4⟩
    have := unhide E1
    simp only [Prod.mk.injEq] at this
    rw [← this.1, ← this.2]
    exact congrArg Ending.returned (by simp [w1', w4'])

end Go.Proofs.YtophdhpkinedgaaGreatDoor
end
