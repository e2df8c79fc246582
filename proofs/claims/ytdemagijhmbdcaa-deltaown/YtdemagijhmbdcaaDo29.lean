/- Layer 13: Changes. · Layer 13: the document's Changes. · Layer 13: the inverter, Invert. · Layer 13: Invert. -/
import Derived.Test.YtdemagijhmbdcaaDo28
import Derived.Test.YtdemagijhmbdcaaDo22
import Derived.Test.YtdemagijhmbdcaaDo27

section
namespace Go.Proofs.Ytdemagijhmbdcaa
open Go.ChangeShapes Go.WideShapes Go.ChangeAt Go.RowKit
attribute [local go_sem] Oper.semAt_some

theorem upL_len (f : Dop → Dop) (l : List Dop) : (upL f l).length = l.length := by
  by_cases h : l = []
  · subst h; rfl
  · obtain ⟨e, x, rfl⟩ := list_snoc h; rw [upL_snoc]; simp
theorem her_len (m : Nat) (cs : List Dop) : (herL m cs).length ≤ cs.length + 1 := by unfold herL; split <;> simp
theorem stL_len (s : Nat × List Dop) (o : Dop) : (stL s o).2.length ≤ s.2.length + 1 := by
  unfold stL
  split
  · simp
  · split
    · simp only [upL_len]; exact her_len _ _
    · simp only [upL_len]; exact her_len _ _
theorem runL_len (d : List Dop) : ∀ k, k ≤ d.length → (runL (d.take k)).2.length ≤ k
  | 0, _ => by simp [runL]
  | k + 1, hk => by
    rw [runL_take d (by omega)]
    have := stL_len (runL (d.take k)) (d.getD k opZ)
    have := runL_len d k (by omega)
    omega
theorem runL_at {d : List Dop} (hv : valB d = true) : ∀ k, k ≤ d.length → (runL (d.take k)).1 = frD (d.take k)
  | 0, _ => by simp [runL, frD]
  | k + 1, hk => by
    rw [runL_take d (by omega), frD_take d (by omega), ← runL_at hv k (by omega)]
    have hx := valB_op hv (getD_memD (d := d) (k := k) (by omega))
    generalize d.getD k opZ = x at *
    unfold stL frN
    rcases hx with ⟨h1 | h1, _, _⟩ | ⟨h1, _, _⟩ <;> simp [h1]
theorem val_len {d : List Dop} (hv : valB d = true) : d.length ≤ 536870912 := by
  have h1 := can_len (d := d) (fun o ho => by
    rcases valB_op hv ho with ⟨h1, h2, h3⟩ | ⟨h1, h2, h3⟩
    · exact .inl ⟨h1, h2, h3⟩
    · exact .inr ⟨h1, h2, h3⟩)
  have h2 := dA_len (valB_k hv)
  have h3 := (valB_nn hv).2
  omega
set_option maxRecDepth 100000 in
theorem each_l (a : Option Addr) (c B g : Nat) (d : List Dop) (X : World) (hO : ∀ Y, Below B X Y → IsO Y a d) (v : Value) (hX : IsLv B X X g 0 v []) (hl : d.length ≤ 4611686018427387904) (hv : valB d = true) :
    Calls Try.prog 26 #[.slice a d.length c, .func (.func 40) #[.pointer (some ⟨g, 0, none⟩)] #[], .func (.func 41) #[.pointer (some ⟨g, 0, none⟩)] #[], .func (.func 42) #[.pointer (some ⟨g, 0, none⟩)] #[]] X
      fun y X' => y = .returned (.tuple #[]) ∧ ∃ v', IsLv B X X' g (runL d).1 v' (runL d).2 := by
  have hz := (valB_nn hv).2
  have hdl := val_len hv
  have := each_at a c B d X 40 41 42 (.pointer (some ⟨g, 0, none⟩))
    (fun k Y => ∃ v', IsLv B X Y g (runL (d.take k)).1 v' (runL (d.take k)).2)
    (enters_of Try.func40 (by kernel_rfl) rfl) (enters_of Try.func41 (by kernel_rfl) rfl) (enters_of Try.func42 (by kernel_rfl) rfl)
    hO (fun k Y ⟨_, hY⟩ => hY.d) (fun k Y o ⟨v', hY⟩ => ⟨v', hY.on ((Below.refl _ _).alloc (Nat.le_refl _) o)⟩) ⟨v, hX⟩ hl
    (fun k Y hlt h1 ⟨v', hY⟩ => by
      have hx := valB_op hv (getD_memD hlt)
      have e0 := runL_at hv k (by omega)
      have e1 := frD_take d hlt
      have e3 := frD_le d (k + 1)
      rw [runL_take d hlt]
      generalize runL (d.take k) = s at *
      generalize d.getD k opZ = x at *
      obtain ⟨xk, xn, xt⟩ := x
      dsimp only at hx h1
      subst h1
      rcases hx with ⟨_, hn, rfl⟩ | ⟨h2, _⟩
      · obtain ⟨m, rfl⟩ : ∃ m : Nat, xn = (m : Int) := ⟨xn.toNat, by omega⟩
        simp [frN] at e1
        refine (lkeep_at B X Y g s.1 m v' s.2 hY (by omega)).mono fun y Z ⟨e, hZ⟩ => ⟨e, v', ?_⟩
        simp only [stL, if_true, Int.toNat_natCast]
        exact hZ
      · omega)
    (fun k Y hlt h1 ⟨v', hY⟩ => by
      have hln := runL_len d k (by omega)
      have hx := valB_op hv (getD_memD hlt)
      rw [runL_take d hlt]
      generalize runL (d.take k) = s at *
      generalize d.getD k opZ = x at *
      obtain ⟨xk, xn, xt⟩ := x
      dsimp only at hx h1
      subst h1
      refine (lput_at B X Y g s.1 v' s.2 xt hY (by omega)).mono fun y Z ⟨e, v2, hZ⟩ => ⟨e, v2, ?_⟩
      simp only [stL, show ¬ ((2 : Int) = 1) by decide, if_false, if_true]
      exact hZ)
    (fun k Y hlt h1 ⟨v', hY⟩ => by
      have hln := runL_len d k (by omega)
      have hx := valB_op hv (getD_memD hlt)
      have e0 := runL_at hv k (by omega)
      have e1 := frD_take d hlt
      have e3 := frD_le d (k + 1)
      rw [runL_take d hlt]
      generalize runL (d.take k) = s at *
      generalize d.getD k opZ = x at *
      obtain ⟨xk, xn, xt⟩ := x
      dsimp only at hx h1
      subst h1
      rcases hx with ⟨_, hn, rfl⟩ | ⟨h2, _⟩
      · obtain ⟨m, rfl⟩ : ∃ m : Nat, xn = (m : Int) := ⟨xn.toNat, by omega⟩
        simp [frN] at e1
        refine (ldrop_at B X Y g s.1 m v' s.2 hY (by omega) (by omega)).mono fun y Z ⟨e, v2, hZ⟩ => ⟨e, v2, ?_⟩
        simp only [stL, show ¬ ((3 : Int) = 1) by decide, show ¬ ((3 : Int) = 2) by decide, if_false, Int.toNat_natCast]
        exact hZ
      · omega)
    (fun k Y hlt h1 h2 h3 _ => by rcases valB_k hv _ (getD_memD hlt) with h | h | h <;> contradiction)
  rw [List.take_length] at this
  exact this
/-- what Changes answers -/
def chD (d : List Dop) : List Dop × Int := if valB d then ((runL d).2, 0) else ([], 130)
set_option maxRecDepth 100000 in
set_option maxHeartbeats 1000000 in
theorem Changes_at (a : Option Addr) (c : Nat) (d : List Dop) (w : World) (h : IsO w a d) (hl : d.length ≤ 4611686018427387904) :
    Calls Try.prog 14 #[.slice a d.length c] w fun y w' => ∃ v, y = .returned (.tuple #[v, .int .i64 (chD d).2]) ∧ w'.ownsRow w.heap.size 56 3 v (chD d).1.length (opsV (chD d).1) ∧ Below w.heap.size w w' := by
  have HV := hide (Valid_atD a c d w h hl)
  cases hv : valB d with
  | false =>
    rw [hv] at HV
    unfold chD
    rw [hv]
    simp only [Bool.false_eq_true, if_false]
    clear hv h hl
    go_enter Try.func14, Try.ntmps14
    go_wp2_with fail
    refine (unhide HV).mono ?_
    rintro y w1 ⟨rfl, x1⟩
    dsimp only
    clear HV
    go_wp2_with fail
    refine bodyPost_ret (results_tmp2 rfl _ _ _) rfl ⟨.slice none 0 0, rfl, World.ownsRow_nil _ _ _ _, x1⟩
  | true =>
    rw [hv] at HV
    unfold chD
    rw [hv]
    simp only [if_true]
    go_enter Try.func14, Try.ntmps14
    go_wp2_with fail
    refine (unhide HV).mono ?_
    rintro y w1 ⟨rfl, x1⟩
    dsimp only
    have hW : IsLv w.heap.size (w1.alloc (.cells #[.int .i64 0, .slice none 0 0] 75)) (w1.alloc (.cells #[.int .i64 0, .slice none 0 0] 75)) w1.heap.size 0 (.slice none 0 0) [] :=
      ⟨Cls.new _ _ _, World.ownsRow_nil _ _ _ _, Below.refl _ _, x1.size, by have := x1.size; simp; omega⟩
    have HE := hide (each_l a c w.heap.size w1.heap.size d _ (fun Y hY => h.below ((x1.alloc x1.size _).trans hY) (Nat.le_refl _)) _ hW hl hv)
    have HX := hide (x1.alloc x1.size (.cells #[.int .i64 0, .slice none 0 0] 75))
    clear HV hW h hl hv x1
    go_upto_region 4 with fail
    generalize w1.alloc (.cells #[.int .i64 0, .slice none 0 0] 75) = w4 at *
    generalize w1.heap.size = g at *
    go_wp2_with fail
    refine (unhide HE).mono ?_
    rintro y w5 ⟨rfl, v5, h5⟩
    dsimp only
    have e1 : w5.cell? ⟨g, 1, none⟩ = some v5 := h5.a.cell 1
    have HOw := hide h5.r
    have HXX := hide ((unhide HX).trans h5.d)
    clear HE h5 HX
    go_wp2_with fail
    refine bodyPost_ret (results_tmp2 rfl _ _ _) rfl ⟨_, rfl, unhide HOw, unhide HXX⟩

end Go.Proofs.Ytdemagijhmbdcaa
end

section
namespace Go.Proofs.Ytdemagijhmbdcaa
open Go.ChangeShapes Go.WideShapes Go.ChangeAt Go.RowKit
attribute [local go_sem] Oper.semAt_some

structure ChI (d : List Dop) (k f : Nat) (op : Bool) (v : Value) (cs : List Dop) (w X : World) : Prop where
  ef : f = frD (d.take k)
  l : cs = (runL (d.take k)).2
  p : op = decide (cs.getLast?.map Dop.n = some (f : Int))
  n : ∀ x, cs.getLast? = some x → x.n ≤ (f : Int)
  o : X.ownsRow w.heap.size 56 3 v cs.length (opsV cs)
  d : Below w.heap.size w X
theorem ChI.open {d : List Dop} {k f : Nat} {v : Value} {cs : List Dop} {w X : World} (h : ChI d k f true v cs w X) : ∃ e x, cs = e ++ [x] ∧ x.n = (f : Int) ∧ herL f cs = e ++ [x] := by
  have hp := of_decide_eq_true h.p.symm
  obtain ⟨e, x, rfl⟩ := list_snoc (d := cs) (fun h0 => by rw [h0] at hp; simp at hp)
  exact ⟨e, x, rfl, by simpa using hp, by unfold herL; rw [if_pos hp]⟩
theorem ChI.shut {d : List Dop} {k f : Nat} {v : Value} {cs : List Dop} {w X : World} (h : ChI d k f false v cs w X) : herL f cs = cs ++ [⟨f, f, []⟩] := by
  have hp := of_decide_eq_false h.p.symm
  unfold herL; rw [if_neg hp]
theorem ChI.keep {d : List Dop} {k f m : Nat} {op : Bool} {v : Value} {cs : List Dop} {w X : World} (h : ChI d k f op v cs w X) (hk : k < d.length) (hx : d.getD k opZ = ⟨1, (m : Int), []⟩) (hm : 1 ≤ m) : ChI d (k + 1) (f + m) false v cs w X := by
  refine ⟨?_, ?_, ?_, ?_, h.o, h.d⟩
  · rw [frD_take d hk, hx, ← h.ef]; simp [frN]
  · rw [runL_take d hk, hx, h.l]; simp [stL]
  · symm
    refine decide_eq_false fun e => ?_
    cases hc : cs.getLast? with
    | none => rw [hc] at e; simp at e
    | some x => rw [hc] at e; have := h.n x hc; simp at e; omega
  · intro x hx'
    have := h.n x hx'
    omega
theorem ChI.put {d : List Dop} {k f : Nat} {t : List Int} {op : Bool} {v v' : Value} {cs e : List Dop} {x : Dop} {w X Y : World} (h : ChI d k f op v cs w X) (hk : k < d.length) (hx : d.getD k opZ = ⟨2, 0, t⟩) (hH : herL f cs = e ++ [x]) (hn : x.n = (f : Int))
    (ho : Y.ownsRow w.heap.size 56 3 v' (e ++ [(⟨x.k, x.n, t⟩ : Dop)]).length (opsV (e ++ [⟨x.k, x.n, t⟩]))) (hb : Below w.heap.size w Y) (hv : valB d = true) : ChI d (k + 1) f true v' (e ++ [⟨x.k, x.n, t⟩]) w Y := by
  have e1 : (runL (d.take k)).1 = f := (runL_at hv k (by omega)).trans h.ef.symm
  refine ⟨?_, ?_, ?_, ?_, ho, hb⟩
  · rw [frD_take d hk, hx, ← h.ef]; simp [frN]
  · rw [runL_take d hk, hx]; simp only [stL, show ¬ ((2 : Int) = 1) by decide, if_false, if_true]; rw [e1, ← h.l, hH, upL_snoc]
  · simp [hn]
  · intro y hy; simp at hy; subst hy; dsimp only; omega
theorem ChI.drop {d : List Dop} {k f m : Nat} {op : Bool} {v v' : Value} {cs e : List Dop} {x : Dop} {w X Y : World} (h : ChI d k f op v cs w X) (hk : k < d.length) (hx : d.getD k opZ = ⟨3, (m : Int), []⟩) (hH : herL f cs = e ++ [x]) (hn : x.n = (f : Int))
    (ho : Y.ownsRow w.heap.size 56 3 v' (e ++ [(⟨x.k, ((f + m : Nat) : Int), x.t⟩ : Dop)]).length (opsV (e ++ [⟨x.k, ((f + m : Nat) : Int), x.t⟩]))) (hb : Below w.heap.size w Y) (hv : valB d = true) : ChI d (k + 1) (f + m) true v' (e ++ [⟨x.k, ((f + m : Nat) : Int), x.t⟩]) w Y := by
  have e1 : (runL (d.take k)).1 = f := (runL_at hv k (by omega)).trans h.ef.symm
  refine ⟨?_, ?_, ?_, ?_, ho, hb⟩
  · rw [frD_take d hk, hx, ← h.ef]; simp [frN]
  · rw [runL_take d hk, hx]; simp only [stL, show ¬ ((3 : Int) = 1) by decide, show ¬ ((3 : Int) = 2) by decide, if_false]; rw [e1, ← h.l, hH, upL_snoc]; simp [hn]
  · simp
  · intro y hy; simp at hy; subst hy; dsimp only; omega
end Go.Proofs.Ytdemagijhmbdcaa
end

section
namespace Go.Proofs.Ytdemagijhmbdcaa
open Go.ChangeShapes Go.WideShapes Go.ChangeAt Go.RowKit
attribute [local go_sem] Oper.semAt_some

/-- the cell ahead of the builder's -/
def rV (v : Value) : Nat → Option Value := fun j => if j = 0 then some v else none
theorem Bd4.at0 {X : World} {g : Nat} {v vo vk vt vd : Value} (h : Bd4 X g 1 (rV v) vo vk vt vd) : X.cell? ⟨g, 0, none⟩ = some v ∧ X.frozen? ⟨g, 0, none⟩ = false := by
  obtain ⟨cs, t, h1, _, _, _, _, _, h7⟩ := h.c
  refine ⟨?_, by simp [World.frozen?, h1]⟩
  simp only [World.cell?, h1]
  exact h7 0 (.inl (by decide))
theorem Bd4.set0 {X : World} {g : Nat} {v vo vk vt vd : Value} (h : Bd4 X g 1 (rV v) vo vk vt vd) (u : Value) : Bd4 (X.setCell ⟨g, 0, none⟩ u) g 1 (rV u) vo vk vt vd := by
  obtain ⟨cs, t, h1, h2, h3, h4, h5, h6, h7⟩ := h.c
  have z3 : 1 + 3 < cs.size := (Array.getElem?_eq_some_iff.1 h6).1
  have other : ∀ j, 0 ≠ j → (cs.setIfInBounds 0 u)[j]? = cs[j]? := fun j hij => by simp [hij]
  refine ⟨_, t, heap_set h1 u, h2, ?_, ?_, ?_, ?_, fun j hj => ?_⟩
  · rw [other _ (by omega)]; exact h3
  · rw [other _ (by omega)]; exact h4
  · rw [other _ (by omega)]; exact h5
  · rw [other _ (by omega)]; exact h6
  · by_cases hj0 : j = 0
    · subst hj0
      have : 0 < cs.size := by omega
      simp [rV, this]
    · rw [other _ (Ne.symm hj0), h7 j hj]; simp [rV, hj0]
theorem IsBd.set0 {X : World} {B g : Nat} {v : Value} {b : Bld} {ts : List (List Int)} (h : IsBd X B g 1 (rV v) b ts) (u : Value) : IsBd (X.setCell ⟨g, 0, none⟩ u) B g 1 (rV u) b ts := by
  obtain ⟨vo, vt, h1, h2, h3⟩ := h.c
  exact ⟨⟨vo, vt, h1.set0 u, bd_rows h1 (fun _ => bdb_op) h2 _ _, bd_rows h1 (fun _ => bdb_str) h3 _ _⟩, h.t, h.z, fun cs q e1 _ => by simp [rV] at e1⟩
theorem IsBd.at0 {X : World} {B g : Nat} {v : Value} {b : Bld} {ts : List (List Int)} (h : IsBd X B g 1 (rV v) b ts) : X.cell? ⟨g, 0, none⟩ = some v ∧ X.frozen? ⟨g, 0, none⟩ = false := by
  obtain ⟨vo, vt, h1, _⟩ := h.c
  exact h1.at0
/-- the inverter: the old bytes that wait, what is fed so far -/
structure IsV (w X : World) (g : Nat) (l : List Int) (e : List Dop) : Prop where
  c : ∃ a c ts, IsB w a c l ∧ IsBd X w.heap.size g 1 (rV (.slice a l.length c)) (feedA b0 (dA e)) ts
  d : Below w.heap.size w X
theorem IsV.on {w X Y : World} {g : Nat} {l : List Int} {e : List Dop} (h : IsV w X g l e) (hb : Below X.heap.size X Y) : IsV w Y g l e := by
  obtain ⟨a, c, ts, h1, h2⟩ := h.c
  exact ⟨⟨a, c, ts, h1, h2.on hb (Nat.le_refl _)⟩, h.d.trans (hb.mono h.d.size)⟩
theorem feed_snoc (e : List Dop) (x : Dop) : feedA b0 (dA (e ++ [x])) = (feedA b0 (dA e)).op x := by
  rw [dA_app, feedA_app, op_atoms]; simp [dA]
theorem rest_at {w X : World} {g : Nat} {l : List Int} {e : List Dop} {a : Option Addr} {c : Nat} {ts : List (List Int)} (h1 : IsB w a c l) (h2 : IsBd X w.heap.size g 1 (rV (.slice a l.length c)) (feedA b0 (dA e)) ts) (hd : Below w.heap.size w X) (n : Nat) :
    IsV w (X.setCell ⟨g, 0, none⟩ (.slice (if c = n then a else a.map (·.add n)) (l.length - n) (c - n))) g (l.drop n) e := by
  refine ⟨⟨_, c - n, ts, h1.loD, ?_⟩, hd.setCell (p := ⟨g, 0, none⟩) h2.z _⟩
  rw [List.length_drop]
  exact h2.set0 _
set_option maxRecDepth 100000 in
set_option maxHeartbeats 1000000 in
theorem vkeep_at (w X : World) (g : Nat) (l : List Int) (e : List Dop) (n : Nat) (h : IsV w X g l e) (hn : n ≤ l.length) (hu : (dA e).length ≤ 1073741824) :
    Calls Try.prog 30 #[.pointer (some ⟨g, 0, none⟩), .int .i64 (n : Int)] X fun y X' => y = .returned (.tuple #[]) ∧ IsV w X' g (l.drop n) (e ++ [⟨1, (n : Int), []⟩]) ∧ Below w.heap.size X X' := by
  obtain ⟨a, c, ts, h1, h2⟩ := h.c
  have hc := h1.1
  have hll := h1.2.1
  have HK := hide (bkeep_at w.heap.size g 1 _ _ ts n X h2 (bd_ok h2 hu) (by omega) h.d.size)
  have HN : Hid (∀ Y ts', IsBd Y w.heap.size g 1 (rV (.slice a l.length c)) ((feedA b0 (dA e)).keep n) ts' → Below w.heap.size X Y → IsV w (Y.setCell ⟨g, 0, none⟩ (.slice (if c = n then a else a.map (·.add n)) (l.length - n) (c - n))) g (l.drop n) (e ++ [⟨1, (n : Int), []⟩]) ∧ Below w.heap.size X (Y.setCell ⟨g, 0, none⟩ (.slice (if c = n then a else a.map (·.add n)) (l.length - n) (c - n)))) := hide fun Y ts' h3 h4 => by
    have e1 : (feedA b0 (dA e)).keep n = feedA b0 (dA (e ++ [⟨1, (n : Int), []⟩])) := by rw [feed_snoc, op_keep rfl]; simp
    rw [e1] at h3
    exact ⟨rest_at h1 h3 (h.d.trans h4) n, h4.setCell (p := ⟨g, 0, none⟩) h3.z _⟩
  clear h h1 h2 hu
  generalize l.length = L at *
  go_enter Try.func30, Try.ntmps30
  go_wp2_with fail
  refine (unhide HK).mono ?_
  rintro y Y ⟨rfl, ⟨ts', h3, _⟩, h4⟩
  dsimp only
  obtain ⟨e0, f0⟩ := h3.at0
  obtain ⟨r1, r2⟩ := unhide HN Y ts' h3 h4
  have HR := hide r1
  have HBB := hide r2
  clear HK HN h3 h4 r1 r2
  by_cases hcn : c = n
  · subst hcn
    obtain rfl : L = c := by omega
    rw [if_pos rfl, Nat.sub_self] at HR HBB
    go_wp2_with fail
    exact bodyPost_end (v := .tuple #[]) (results_none Try.results30 _ _ _) rfl ⟨rfl, unhide HR, unhide HBB⟩
  · rw [if_neg hcn] at HR HBB
    go_wp2_with fail
    exact bodyPost_end (v := .tuple #[]) (results_none Try.results30 _ _ _) rfl ⟨rfl, unhide HR, unhide HBB⟩
set_option maxRecDepth 100000 in
set_option maxHeartbeats 1000000 in
theorem vput_at (w X : World) (g : Nat) (l : List Int) (e : List Dop) (t : List Int) (h : IsV w X g l e) (ht : t.length ≤ 2305843009213693952) (hu : (dA e).length ≤ 1073741824) :
    Calls Try.prog 31 #[.pointer (some ⟨g, 0, none⟩), .string (strOfNums t)] X fun y X' => y = .returned (.tuple #[]) ∧ IsV w X' g l (e ++ [⟨3, (t.length : Int), []⟩]) ∧ Below w.heap.size X X' := by
  obtain ⟨a, c, ts, h1, h2⟩ := h.c
  have hsz := strOfNums_size t
  have HK := hide (bdrop_at w.heap.size g 1 _ _ ts t.length X h2 (by have := (bd_ok h2 hu).d; omega))
  have HN : Hid (∀ Y, IsBd Y w.heap.size g 1 (rV (.slice a l.length c)) ((feedA b0 (dA e)).drop t.length) ts → Below w.heap.size X Y → IsV w Y g l (e ++ [⟨3, (t.length : Int), []⟩])) := hide fun Y h3 h4 => by
    have e1 : (feedA b0 (dA e)).drop t.length = feedA b0 (dA (e ++ [⟨3, (t.length : Int), []⟩])) := by rw [feed_snoc, op_drop rfl]; simp
    rw [e1] at h3
    exact ⟨⟨a, c, ts, h1, h3⟩, h.d.trans h4⟩
  clear h h1 h2 hu
  go_enter Try.func31, Try.ntmps31
  go_wp2_with fail
  refine (unhide HK).mono ?_
  rintro y Y ⟨rfl, h3, h4⟩
  dsimp only
  have HR := hide (unhide HN Y h3 h4)
  have HBB := hide h4
  clear HK HN h3 h4
  go_wp2_with fail
  exact bodyPost_end (v := .tuple #[]) (results_none Try.results31 _ _ _) rfl ⟨rfl, unhide HR, unhide HBB⟩
set_option maxRecDepth 100000 in
set_option maxHeartbeats 1000000 in
theorem vdrop_at (w X : World) (g : Nat) (l : List Int) (e : List Dop) (n : Nat) (h : IsV w X g l e) (hn : n ≤ l.length) (hu : (dA e).length ≤ 1073741824) :
    Calls Try.prog 32 #[.pointer (some ⟨g, 0, none⟩), .int .i64 (n : Int)] X fun y X' => y = .returned (.tuple #[]) ∧ IsV w X' g (l.drop n) (e ++ [⟨2, 0, l.take n⟩]) ∧ Below w.heap.size X X' := by
  obtain ⟨a, c, ts, h1, h2⟩ := h.c
  have hc := h1.1
  have hll := h1.2.1
  have hln : (l.take n).length = n := by simp; omega
  have hdr : IsBd X.drew w.heap.size g 1 (rV (.slice a l.length c)) (feedA b0 (dA e)) ts := bd_drew h2
  have HK := hide (bput_at w.heap.size g 1 _ _ ts (l.take n) X.drew hdr (bd_ok h2 hu).t h.d.size)
  have hcv := str_bs X.drew a c (l.take n) ((h1.takeD (n := n)).below h.d.drew (Nat.le_refl _)).2.2.1
  rw [hln] at hcv
  have HN : Hid (∀ Y ts', IsBd Y w.heap.size g 1 (rV (.slice a l.length c)) ((feedA b0 (dA e)).put (l.take n)) ts' → Below w.heap.size X.drew Y → IsV w (Y.setCell ⟨g, 0, none⟩ (.slice (if c = n then a else a.map (·.add n)) (l.length - n) (c - n))) g (l.drop n) (e ++ [⟨2, 0, l.take n⟩]) ∧ Below w.heap.size X (Y.setCell ⟨g, 0, none⟩ (.slice (if c = n then a else a.map (·.add n)) (l.length - n) (c - n)))) := hide fun Y ts' h3 h4 => by
    have e1 : (feedA b0 (dA e)).put (l.take n) = feedA b0 (dA (e ++ [⟨2, 0, l.take n⟩])) := by rw [feed_snoc, op_put rfl]
    rw [e1] at h3
    have h5 : Below w.heap.size X Y := (Below.refl w.heap.size X).drew.trans h4
    exact ⟨rest_at h1 h3 (h.d.trans h5) n, h5.setCell (p := ⟨g, 0, none⟩) h3.z _⟩
  have HS0 := hide (And.intro hdr.at0.1 hcv)
  have hnc : n ≤ c := by omega
  clear h h1 h2 hu hdr hcv hln
  generalize l.length = L at *
  generalize strOfNums (l.take n) = st at *
  go_enter Try.func32, Try.ntmps32
  go_upto_region 0 with fail
  refine regionL (S := fun w' => w'.cell? ⟨g, 0, none⟩ = some (.slice a L c) ∧ (convert 22 9 (.slice a n c)).run Try.prog w' = .ok (.string st) w') (fun i => i == 10) (by kernel_rfl) ?_
  refine anyL_take (i := 0) (v := ?vvd0) rfl (by kernel_rfl) (by kernel_rfl) (by kernel_rfl) (by kernel_rfl) (fun _ _ _ h => h) (Or.inl ⟨by rfl, ?hvd0⟩) (unhide HS0) ?_
  case hvd0 => (intro w hSw; (try dsimp only at hSw); go_simp) <;> with_reducible rfl
  simp only [Act.put, List.getElem_toArray, List.getElem_cons_zero, List.setIfInBounds_toArray, List.set_cons_zero, List.set_cons_succ]
  refine anyL_take (i := 1) (v := ?vvd1) rfl (by kernel_rfl) (by kernel_rfl) (by kernel_rfl) (by kernel_rfl) (fun _ _ _ h => h) (Or.inl ⟨by rfl, ?hvd1⟩) (unhide HS0) ?_
  case hvd1 => (intro w hSw; (try dsimp only at hSw); go_simp) <;> with_reducible rfl
  simp only [Act.put, List.getElem_toArray, List.getElem_cons_zero, List.getElem_cons_succ, List.setIfInBounds_toArray, List.set_cons_zero, List.set_cons_succ]
  refine anyL_take (i := 2) (v := ?vvd2) rfl (by kernel_rfl) (by kernel_rfl) (by kernel_rfl) (by kernel_rfl) (fun _ _ _ h => h) (Or.inl ⟨by rfl, ?hvd2⟩) (unhide HS0) ?_
  case hvd2 => (intro w hSw; (try dsimp only at hSw); go_simp) <;> with_reducible rfl
  simp only [Act.put, List.getElem_toArray, List.getElem_cons_zero, List.getElem_cons_succ, List.setIfInBounds_toArray, List.set_cons_zero, List.set_cons_succ]
  refine anyL_take (i := 3) (v := ?vvd3) rfl (by kernel_rfl) (by kernel_rfl) (by kernel_rfl) (by kernel_rfl) (fun _ _ _ h => h) (Or.inl ⟨by rfl, ?hvd3⟩) (unhide HS0) ?_
  case hvd3 => (intro w hSw; (try dsimp only at hSw); go_simp) <;> with_reducible rfl
  simp only [Act.put, List.getElem_toArray, List.getElem_cons_zero, List.getElem_cons_succ, List.setIfInBounds_toArray, List.set_cons_zero, List.set_cons_succ]
  refine anyL_take (i := 4) (v := ?vvd4) rfl (by kernel_rfl) (by kernel_rfl) (by kernel_rfl) (by kernel_rfl) (fun _ _ _ h => h) (Or.inl ⟨by rfl, ?hvd4⟩) (unhide HS0) ?_
  case hvd4 => (intro w hSw; (try dsimp only at hSw); go_simp) <;> with_reducible rfl
  simp only [Act.put, List.getElem_toArray, List.getElem_cons_zero, List.getElem_cons_succ, List.setIfInBounds_toArray, List.set_cons_zero, List.set_cons_succ]
  refine anyL_take (i := 5) (v := ?vvd5) rfl (by kernel_rfl) (by kernel_rfl) (by kernel_rfl) (by kernel_rfl) (fun _ _ _ h => h) (Or.inl ⟨by rfl, ?hvd5⟩) (unhide HS0) ?_
  case hvd5 => (intro w hSw; (try dsimp only at hSw); go_simp) <;> with_reducible rfl
  simp only [Act.put, List.getElem_toArray, List.getElem_cons_zero, List.getElem_cons_succ, List.setIfInBounds_toArray, List.set_cons_zero, List.set_cons_succ]
  refine anyL_take (i := 6) (v := ?vvd6) rfl (by kernel_rfl) (by kernel_rfl) (by kernel_rfl) (by kernel_rfl) (fun _ _ _ h => h) (Or.inl ⟨by rfl, ?hvd6⟩) (unhide HS0) ?_
  case hvd6 => (intro w hSw; (try dsimp only at hSw); go_simp) <;> with_reducible rfl
  simp only [Act.put, List.getElem_toArray, List.getElem_cons_zero, List.getElem_cons_succ, List.setIfInBounds_toArray, List.set_cons_zero, List.set_cons_succ]
  refine anyL_take (i := 7) (v := ?vvd7) rfl (by kernel_rfl) (by kernel_rfl) (by kernel_rfl) (by kernel_rfl) (fun _ _ _ h => h) (Or.inl ⟨by rfl, ?hvd7⟩) (unhide HS0) ?_
  case hvd7 => (intro w hSw; (try dsimp only at hSw); go_simp) <;> with_reducible rfl
  simp only [Act.put, List.getElem_toArray, List.getElem_cons_zero, List.getElem_cons_succ, List.setIfInBounds_toArray, List.set_cons_zero, List.set_cons_succ]
  refine anyL_take (i := 8) (v := ?vvd8) rfl (by kernel_rfl) (by kernel_rfl) (by kernel_rfl) (by kernel_rfl) (fun _ _ _ h => h) (Or.inl ⟨by rfl, ?hvd8⟩) (unhide HS0) ?_
  case hvd8 => (intro w hSw; (try dsimp only at hSw); go_simp) <;> with_reducible rfl
  simp only [Act.put, List.getElem_toArray, List.getElem_cons_zero, List.getElem_cons_succ, List.setIfInBounds_toArray, List.set_cons_zero, List.set_cons_succ]
  refine anyL_take (i := 9) (v := ?vvd9) rfl (by kernel_rfl) (by kernel_rfl) (by kernel_rfl) (by kernel_rfl) (fun _ _ _ h => h) (Or.inl ⟨by rfl, ?hvd9⟩) (unhide HS0) ?_
  case hvd9 => (intro w hSw; (try dsimp only at hSw); go_simp) <;> with_reducible rfl
  simp only [Act.put, List.getElem_toArray, List.getElem_cons_zero, List.getElem_cons_succ, List.setIfInBounds_toArray, List.set_cons_zero, List.set_cons_succ]
  refine anyL_ready (rs := [10]) (by kernel_rfl) (by simp) ?_
  refine AllL.cons rfl (fun K hK => ?_) AllL.nil
  go_simp
  refine (unhide HK).mono ?_
  rintro y Y ⟨rfl, h3, h4⟩
  dsimp only
  clear HK
  refine unhide hK _ _ (fun h => by cases h) ?_
  clear hK K
  refine anyL_done (by kernel_rfl) ?_ _
  clear HS0
  obtain ⟨e0, f0⟩ := h3.at0
  obtain ⟨r1, r2⟩ := unhide HN Y _ h3 h4
  have HR := hide r1
  have HBB := hide r2
  clear HN h3 h4 r1 r2
  by_cases hcn : c = n
  · subst hcn
    obtain rfl : L = c := by omega
    rw [if_pos rfl, Nat.sub_self] at HR HBB
    go_wp2_with fail
    exact bodyPost_end (v := .tuple #[]) (results_none Try.results32 _ _ _) rfl ⟨rfl, unhide HR, unhide HBB⟩
  · rw [if_neg hcn] at HR HBB
    go_wp2_with fail
    exact bodyPost_end (v := .tuple #[]) (results_none Try.results32 _ _ _) rfl ⟨rfl, unhide HR, unhide HBB⟩

end Go.Proofs.Ytdemagijhmbdcaa
end

section
namespace Go.Proofs.Ytdemagijhmbdcaa
open Go.ChangeShapes Go.WideShapes Go.ChangeAt Go.RowKit
attribute [local go_sem] Oper.semAt_some

/-- what waits, and what is fed, behind one operation more -/
def stV (s : List Int × List Dop) (o : Dop) : List Int × List Dop := if o.k = 1 then (s.1.drop o.n.toNat, s.2 ++ [⟨1, o.n, []⟩]) else if o.k = 2 then (s.1, s.2 ++ [⟨3, (o.t.length : Int), []⟩]) else (s.1.drop o.n.toNat, s.2 ++ [⟨2, 0, s.1.take o.n.toNat⟩])
def runV (b : List Int) (d : List Dop) : List Int × List Dop := d.foldl stV (b, [])
def ivD (b : List Int) (d : List Dop) : List Dop := (runV b d).2
theorem runV_take (b : List Int) (d : List Dop) {k : Nat} (hk : k < d.length) : runV b (d.take (k + 1)) = stV (runV b (d.take k)) (d.getD k opZ) := by
  unfold runV
  rw [List.take_add_one, List.getElem?_eq_getElem hk, Option.toList_some, List.foldl_append]
  simp [List.getD_eq_getElem?_getD, List.getElem?_eq_getElem hk]
theorem dA_snoc (e : List Dop) (x : Dop) : dA (e ++ [x]) = dA e ++ opA x := by rw [dA_app]; simp [dA]
theorem runV_len {b : List Int} {d : List Dop} (hv : valB d = true) (hf : frD d = b.length) : ∀ k, k ≤ d.length → (runV b (d.take k)).1.length + frD (d.take k) = b.length ∧ (dA (runV b (d.take k)).2).length ≤ frD (d.take k) + toD (d.take k)
  | 0, _ => by simp [runV, frD, toD, dA]
  | k + 1, hk => by
    have ih := runV_len hv hf k (by omega)
    have hx := valB_op hv (getD_memD (d := d) (k := k) (by omega))
    have e1 := frD_take d (k := k) (by omega)
    have e2 := toD_take d (k := k) (by omega)
    have e3 := (frD_le d (k + 1)).1
    rw [runV_take b d (by omega)]
    generalize runV b (d.take k) = s at *
    generalize d.getD k opZ = x at *
    obtain ⟨xk, xn, xt⟩ := x
    dsimp only at hx
    rcases hx with ⟨rfl | rfl, hn, rfl⟩ | ⟨rfl, rfl, hn⟩
    · simp [stV, frN, toN, dA_snoc, opA] at e1 e2 ⊢; omega
    · simp [stV, frN, toN, dA_snoc, opA] at e1 e2 ⊢; omega
    · simp [stV, frN, toN, dA_snoc, opA] at e1 e2 ⊢; omega
theorem each_v (a : Option Addr) (c g : Nat) (d : List Dop) (b : List Int) (w X : World) (hO : ∀ Y, Below w.heap.size w Y → IsO Y a d) (hX : IsV w X g b []) (hl : d.length ≤ 4611686018427387904) (hv : valB d = true) (hf : frD d = b.length) :
    Calls Try.prog 26 #[.slice a d.length c, .func (.func 30) #[.pointer (some ⟨g, 0, none⟩)] #[], .func (.func 31) #[.pointer (some ⟨g, 0, none⟩)] #[], .func (.func 32) #[.pointer (some ⟨g, 0, none⟩)] #[]] X
      fun y X' => y = .returned (.tuple #[]) ∧ IsV w X' g (runV b d).1 (ivD b d) := by
  have hz := (valB_nn hv).2
  have := each_at a c w.heap.size d X 30 31 32 (.pointer (some ⟨g, 0, none⟩))
    (fun k Y => IsV w Y g (runV b (d.take k)).1 (runV b (d.take k)).2 ∧ Below w.heap.size X Y)
    (enters_of Try.func30 (by kernel_rfl) rfl) (enters_of Try.func31 (by kernel_rfl) rfl) (enters_of Try.func32 (by kernel_rfl) rfl)
    (fun Y hY => hO Y (hX.d.trans hY)) (fun k Y hY => hY.2) (fun k Y o hY => ⟨hY.1.on ((Below.refl _ _).alloc (Nat.le_refl _) o), hY.2.alloc (Nat.le_trans hX.d.size hY.2.size) o⟩) ⟨hX, Below.refl _ _⟩ hl
    (fun k Y hlt h1 hY => by
      have hx := valB_op hv (getD_memD hlt)
      have hlen := runV_len hv hf k (by omega)
      have e1 := frD_take d hlt
      have e2 := toD_take d hlt
      have e3 := frD_le d (k + 1)
      rw [runV_take b d hlt]
      generalize runV b (d.take k) = s at *
      generalize d.getD k opZ = x at *
      obtain ⟨xk, xn, xt⟩ := x
      dsimp only at hx h1
      subst h1
      rcases hx with ⟨_, hn, rfl⟩ | ⟨h2, _⟩
      · obtain ⟨m, rfl⟩ : ∃ m : Nat, xn = (m : Int) := ⟨xn.toNat, by omega⟩
        simp [frN, toN] at e1 e2
        refine (vkeep_at w Y g s.1 s.2 m hY.1 (by omega) (by omega)).mono fun y Z ⟨e, hZ, hW⟩ => ⟨e, ?_, hY.2.trans hW⟩
        simp only [stV, if_true, Int.toNat_natCast]
        exact hZ
      · omega)
    (fun k Y hlt h1 hY => by
      have hx := valB_op hv (getD_memD hlt)
      have hlen := runV_len hv hf k (by omega)
      have e1 := frD_take d hlt
      have e2 := toD_take d hlt
      have e3 := frD_le d (k + 1)
      rw [runV_take b d hlt]
      generalize runV b (d.take k) = s at *
      generalize d.getD k opZ = x at *
      obtain ⟨xk, xn, xt⟩ := x
      dsimp only at hx h1
      subst h1
      rcases hx with ⟨h2, _⟩ | ⟨_, hn, hne⟩
      · omega
      · simp [frN, toN] at e1 e2
        refine (vput_at w Y g s.1 s.2 xt hY.1 (by omega) (by omega)).mono fun y Z ⟨e, hZ, hW⟩ => ⟨e, ?_, hY.2.trans hW⟩
        simp only [stV, show ¬ ((2 : Int) = 1) by decide, if_false, if_true]
        exact hZ)
    (fun k Y hlt h1 hY => by
      have hx := valB_op hv (getD_memD hlt)
      have hlen := runV_len hv hf k (by omega)
      have e1 := frD_take d hlt
      have e2 := toD_take d hlt
      have e3 := frD_le d (k + 1)
      rw [runV_take b d hlt]
      generalize runV b (d.take k) = s at *
      generalize d.getD k opZ = x at *
      obtain ⟨xk, xn, xt⟩ := x
      dsimp only at hx h1
      subst h1
      rcases hx with ⟨_, hn, rfl⟩ | ⟨h2, _⟩
      · obtain ⟨m, rfl⟩ : ∃ m : Nat, xn = (m : Int) := ⟨xn.toNat, by omega⟩
        simp [frN, toN] at e1 e2
        refine (vdrop_at w Y g s.1 s.2 m hY.1 (by omega) (by omega)).mono fun y Z ⟨e, hZ, hW⟩ => ⟨e, ?_, hY.2.trans hW⟩
        simp only [stV, show ¬ ((3 : Int) = 1) by decide, show ¬ ((3 : Int) = 2) by decide, if_false, Int.toNat_natCast]
        exact hZ
      · omega)
    (fun k Y hlt h1 h2 h3 _ => by rcases valB_k hv _ (getD_memD hlt) with h | h | h <;> contradiction)
  rw [List.take_length] at this
  exact this.mono fun y Y ⟨e, hY, _⟩ => ⟨e, hY⟩
theorem iv_new (w w1 : World) (a0 : Option Addr) (c0 : Nat) (b : List Int) (hb : IsB w a0 c0 b) (hx : Below w.heap.size w w1) : IsV w (w1.alloc (.cells #[.slice a0 b.length c0, .slice none 0 0, .int .i64 0, .slice none 0 0, .int .i64 0] 72)) w1.heap.size b [] := by
  refine ⟨⟨a0, c0, [], hb, ⟨.slice none 0 0, .slice none 0 0, ⟨_, _, World.alloc_heap_new w1 _, .inr rfl, rfl, rfl, rfl, rfl, fun j hj => ?_⟩, World.ownsRow_nil _ _ _ _, World.ownsRow_nil _ _ _ _⟩, ⟨rfl, fun x hx => by simp at hx⟩, hx.size, fun cs q e1 _ => by simp [rV] at e1⟩, hx.alloc hx.size _⟩
  rcases hj with hj | hj
  · obtain rfl : j = 0 := by omega
    rfl
  · rw [Array.getElem?_eq_none (by simp; omega)]
    unfold rV
    rw [if_neg (by omega)]
def invD (b : List Int) (d : List Dop) : List Dop := if fitE d b.length = 0 then canA (dA (ivD b d)) else []
set_option maxRecDepth 100000 in
set_option maxHeartbeats 1000000 in
theorem Invert_at (a0 : Option Addr) (c0 : Nat) (b : List Int) (a : Option Addr) (c : Nat) (d : List Dop) (w : World) (hb : IsB w a0 c0 b) (h : IsO w a d) (hl : d.length ≤ 4611686018427387904) :
    Calls Try.prog 11 #[.slice a0 b.length c0, .slice a d.length c] w fun y w' => ∃ v, y = .returned (.tuple #[v, .int .i64 (fitE d b.length)]) ∧ w'.ownsRow w.heap.size 34 3 v (invD b d).length (opsV (invD b d)) ∧ Below w.heap.size w w' := by
  have HF := hide (fits_at a0 b.length c0 a c d w h hl)
  unfold invD
  rcases fit_cases d b.length with ⟨hv, he⟩ | ⟨hv, hf, he, t1, t2⟩ | ⟨hv, hf, he⟩
  · rw [he] at HF ⊢
    rw [if_neg (by decide)]
    clear he hv hb h hl
    go_enter Try.func11, Try.ntmps11
    go_wp2_with fail
    refine (unhide HF).mono ?_
    rintro y w1 ⟨rfl, x1⟩
    dsimp only
    clear HF
    go_wp2_with fail
    refine bodyPost_ret (results_tmp2 rfl _ _ _) rfl ⟨.slice none 0 0, rfl, row_nilD _ _, x1⟩
  · rw [he] at HF ⊢
    rw [if_neg (by decide)]
    clear he hv hb h hl t1 t2 hf
    go_enter Try.func11, Try.ntmps11
    go_wp2_with fail
    refine (unhide HF).mono ?_
    rintro y w1 ⟨rfl, x1⟩
    dsimp only
    clear HF
    go_wp2_with fail
    refine bodyPost_ret (results_tmp2 rfl _ _ _) rfl ⟨.slice none 0 0, rfl, row_nilD _ _, x1⟩
  · rw [he] at HF ⊢
    rw [if_pos rfl]
    have HLN : Hid ((dA (ivD b d)).length ≤ 1073741824) := hide (by
      have h1 := (runV_len hv hf d.length (Nat.le_refl _)).2
      have h2 := (valB_nn hv).2
      rw [List.take_length] at h1
      unfold ivD
      omega)
    have HE : Hid (∀ X g, IsV w X g b [] → Calls Try.prog 26 #[.slice a d.length c, .func (.func 30) #[.pointer (some ⟨g, 0, none⟩)] #[], .func (.func 31) #[.pointer (some ⟨g, 0, none⟩)] #[], .func (.func 32) #[.pointer (some ⟨g, 0, none⟩)] #[]] X
      fun y X' => y = .returned (.tuple #[]) ∧ IsV w X' g (runV b d).1 (ivD b d)) := hide fun X g hX => each_v a c g d b w X (fun Y hY => h.below hY (Nat.le_refl _)) hX hl hv hf
    have HB := hide hb
    have HCA : Hid (canA (dA (ivD b d)) = (feedA b0 (dA (ivD b d))).fin) := hide rfl
    clear he h hl hv hf hb
    generalize canA (dA (ivD b d)) = L at *
    generalize (runV b d).1 = rest at *
    generalize ivD b d = e at *
    go_enter Try.func11, Try.ntmps11
    go_wp2_with fail
    refine (unhide HF).mono ?_
    rintro y w1 ⟨rfl, x1⟩
    dsimp only
    have HE1 := hide (unhide HE _ _ (iv_new w w1 a0 c0 b (unhide HB) x1))
    clear HF x1 HB HE
    go_upto_region 5 with fail
    generalize w1.alloc (.cells #[.slice a0 b.length c0, .slice none 0 0, .int .i64 0, .slice none 0 0, .int .i64 0] 72) = w2 at *
    generalize w1.heap.size = g at *
    go_wp2_with fail
    refine (unhide HE1).mono ?_
    rintro y w3 ⟨rfl, h3⟩
    dsimp only
    obtain ⟨a3, c3, ts, _, h4⟩ := h3.c
    have HD := hide (bdelta_at w.heap.size g 1 _ _ ts w3 h4 (bd_ok h4 (unhide HLN)) h3.d.size)
    rw [← unhide HCA] at HD
    have HX3 := hide h3.d
    clear HE1 h3 h4
    go_wp2_with fail
    refine (unhide HD).mono ?_
    rintro y w5 ⟨v, rfl, ho, x5⟩
    dsimp only
    have HO5 := hide ho
    have HX5 := hide ((unhide HX3).trans x5)
    clear HD ho x5
    go_wp2_with fail
    refine bodyPost_ret (results_tmp2 rfl _ _ _) rfl ⟨v, rfl, unhide HO5, unhide HX5⟩

end Go.Proofs.Ytdemagijhmbdcaa
end
