/- Layer 13: Changes. · Layer 13: the document's Changes. · Layer 13: the inverter, Invert. -/
import Derived.Test.YtifpjdodignflaaRv26
import Derived.Test.YtifpjdodignflaaRv23
import Derived.Test.YtifpjdodignflaaRv25

section
namespace Go.Proofs.Ytifpjdodignflaa
open Go.ChangeShapes Go.WideShapes Go.ChangeAt Go.RowKit
attribute [local go_sem] Oper.semAt_some

theorem upL_len (f : Dop → Dop) (l : List Dop) : (upL f l).length = l.length := by
  by_cases h : l = []
  · subst h; rfl
  · obtain ⟨e, x, rfl⟩ := list_snoc h; rw [upL_snoc]; simp
theorem her_len (m : Nat) (cs : List Dop) : (herL m cs).length ≤ cs.length + 1 := by unfold herL; split <;> simp
theorem stL_len (s : Nat × List Dop) (o : Dop) : (stL s o).2.length ≤ s.2.length + 1 := by
  unfold stL
  split
  · simp
  · split
    · simp only [upL_len]; exact her_len _ _
    · simp only [upL_len]; exact her_len _ _
theorem runL_len (d : List Dop) : ∀ k, k ≤ d.length → (runL (d.take k)).2.length ≤ k
  | 0, _ => by simp [runL]
  | k + 1, hk => by
    rw [runL_take d (by omega)]
    have := stL_len (runL (d.take k)) (d.getD k opZ)
    have := runL_len d k (by omega)
    omega
theorem runL_at {d : List Dop} (hv : valB d = true) : ∀ k, k ≤ d.length → (runL (d.take k)).1 = frD (d.take k)
  | 0, _ => by simp [runL, frD]
  | k + 1, hk => by
    rw [runL_take d (by omega), frD_take d (by omega), ← runL_at hv k (by omega)]
    have hx := valB_op hv (getD_memD (d := d) (k := k) (by omega))
    generalize d.getD k opZ = x at *
    unfold stL frN
    rcases hx with ⟨h1 | h1, _, _⟩ | ⟨h1, _, _⟩ <;> simp [h1]
theorem val_len {d : List Dop} (hv : valB d = true) : d.length ≤ 536870912 := by
  have h1 := can_len (d := d) (fun o ho => by
    rcases valB_op hv ho with ⟨h1, h2, h3⟩ | ⟨h1, h2, h3⟩
    · exact .inl ⟨h1, h2, h3⟩
    · exact .inr ⟨h1, h2, h3⟩)
  have h2 := dA_len (valB_k hv)
  have h3 := (valB_nn hv).2
  omega
set_option maxRecDepth 100000 in
theorem each_l (a : Option Addr) (c B g : Nat) (d : List Dop) (X : World) (hO : ∀ Y, Below B X Y → IsO Y a d) (v : Value) (hX : IsLv B X X g 0 v []) (hl : d.length ≤ 4611686018427387904) (hv : valB d = true) :
    Calls Try.prog 63 #[.slice a d.length c, .func (.func 92) #[.pointer (some ⟨g, 0, none⟩)] #[], .func (.func 93) #[.pointer (some ⟨g, 0, none⟩)] #[], .func (.func 94) #[.pointer (some ⟨g, 0, none⟩)] #[]] X
      fun y X' => y = .returned (.tuple #[]) ∧ ∃ v', IsLv B X X' g (runL d).1 v' (runL d).2 := by
  have hz := (valB_nn hv).2
  have hdl := val_len hv
  have := each_at a c B d X 92 93 94 (.pointer (some ⟨g, 0, none⟩))
    (fun k Y => ∃ v', IsLv B X Y g (runL (d.take k)).1 v' (runL (d.take k)).2)
    (enters_of Try.func92 (by kernel_rfl) rfl) (enters_of Try.func93 (by kernel_rfl) rfl) (enters_of Try.func94 (by kernel_rfl) rfl)
    hO (fun k Y ⟨_, hY⟩ => hY.d) (fun k Y o ⟨v', hY⟩ => ⟨v', hY.on ((Below.refl _ _).alloc (Nat.le_refl _) o)⟩) ⟨v, hX⟩ hl
    (fun k Y hlt h1 ⟨v', hY⟩ => by
      have hx := valB_op hv (getD_memD hlt)
      have e0 := runL_at hv k (by omega)
      have e1 := frD_take d hlt
      have e3 := frD_le d (k + 1)
      rw [runL_take d hlt]
      generalize runL (d.take k) = s at *
      generalize d.getD k opZ = x at *
      obtain ⟨xk, xn, xt⟩ := x
      dsimp only at hx h1
      subst h1
      rcases hx with ⟨_, hn, rfl⟩ | ⟨h2, _⟩
      · obtain ⟨m, rfl⟩ : ∃ m : Nat, xn = (m : Int) := ⟨xn.toNat, by omega⟩
        simp [frN] at e1
        refine (lkeep_at B X Y g s.1 m v' s.2 hY (by omega)).mono fun y Z ⟨e, hZ⟩ => ⟨e, v', ?_⟩
        simp only [stL, if_true, Int.toNat_natCast]
        exact hZ
      · omega)
    (fun k Y hlt h1 ⟨v', hY⟩ => by
      have hln := runL_len d k (by omega)
      have hx := valB_op hv (getD_memD hlt)
      rw [runL_take d hlt]
      generalize runL (d.take k) = s at *
      generalize d.getD k opZ = x at *
      obtain ⟨xk, xn, xt⟩ := x
      dsimp only at hx h1
      subst h1
      refine (lput_at B X Y g s.1 v' s.2 xt hY (by omega)).mono fun y Z ⟨e, v2, hZ⟩ => ⟨e, v2, ?_⟩
      simp only [stL, show ¬ ((2 : Int) = 1) by decide, if_false, if_true]
      exact hZ)
    (fun k Y hlt h1 ⟨v', hY⟩ => by
      have hln := runL_len d k (by omega)
      have hx := valB_op hv (getD_memD hlt)
      have e0 := runL_at hv k (by omega)
      have e1 := frD_take d hlt
      have e3 := frD_le d (k + 1)
      rw [runL_take d hlt]
      generalize runL (d.take k) = s at *
      generalize d.getD k opZ = x at *
      obtain ⟨xk, xn, xt⟩ := x
      dsimp only at hx h1
      subst h1
      rcases hx with ⟨_, hn, rfl⟩ | ⟨h2, _⟩
      · obtain ⟨m, rfl⟩ : ∃ m : Nat, xn = (m : Int) := ⟨xn.toNat, by omega⟩
        simp [frN] at e1
        refine (ldrop_at B X Y g s.1 m v' s.2 hY (by omega) (by omega)).mono fun y Z ⟨e, v2, hZ⟩ => ⟨e, v2, ?_⟩
        simp only [stL, show ¬ ((3 : Int) = 1) by decide, show ¬ ((3 : Int) = 2) by decide, if_false, Int.toNat_natCast]
        exact hZ
      · omega)
    (fun k Y hlt h1 h2 h3 _ => by rcases valB_k hv _ (getD_memD hlt) with h | h | h <;> contradiction)
  rw [List.take_length] at this
  exact this
/-- what Changes answers -/
def chD (d : List Dop) : List Dop × Int := if valB d then ((runL d).2, 0) else ([], 130)
set_option maxRecDepth 100000 in
set_option maxHeartbeats 1000000 in
theorem Changes_at (a : Option Addr) (c : Nat) (d : List Dop) (w : World) (h : IsO w a d) (hl : d.length ≤ 4611686018427387904) :
    Calls Try.prog 67 #[.slice a d.length c] w fun y w' => ∃ v, y = .returned (.tuple #[v, .int .i64 (chD d).2]) ∧ w'.ownsRow w.heap.size 113 3 v (chD d).1.length (opsV (chD d).1) ∧ Below w.heap.size w w' := by
  have HV := hide (Valid_atD a c d w h hl)
  cases hv : valB d with
  | false =>
    rw [hv] at HV
    unfold chD
    rw [hv]
    simp only [Bool.false_eq_true, if_false]
    clear hv h hl
    go_enter Try.func67, Try.ntmps67
    go_wp2_with fail
    refine (unhide HV).mono ?_
    rintro y w1 ⟨rfl, x1⟩
    dsimp only
    clear HV
    go_wp2_with fail
    refine bodyPost_ret (results_tmp2 rfl _ _ _) rfl ⟨.slice none 0 0, rfl, World.ownsRow_nil _ _ _ _, x1⟩
  | true =>
    rw [hv] at HV
    unfold chD
    rw [hv]
    simp only [if_true]
    go_enter Try.func67, Try.ntmps67
    go_wp2_with fail
    refine (unhide HV).mono ?_
    rintro y w1 ⟨rfl, x1⟩
    dsimp only
    have hW : IsLv w.heap.size (w1.alloc (.cells #[.int .i64 0, .slice none 0 0] 144)) (w1.alloc (.cells #[.int .i64 0, .slice none 0 0] 144)) w1.heap.size 0 (.slice none 0 0) [] :=
      ⟨Cls.new _ _ _, World.ownsRow_nil _ _ _ _, Below.refl _ _, x1.size, by have := x1.size; simp; omega⟩
    have HE := hide (each_l a c w.heap.size w1.heap.size d _ (fun Y hY => h.below ((x1.alloc x1.size _).trans hY) (Nat.le_refl _)) _ hW hl hv)
    have HX := hide (x1.alloc x1.size (.cells #[.int .i64 0, .slice none 0 0] 144))
    clear HV hW h hl hv x1
    go_upto_region 4 with fail
    generalize w1.alloc (.cells #[.int .i64 0, .slice none 0 0] 144) = w4 at *
    generalize w1.heap.size = g at *
    go_wp2_with fail
    refine (unhide HE).mono ?_
    rintro y w5 ⟨rfl, v5, h5⟩
    dsimp only
    have e1 : w5.cell? ⟨g, 1, none⟩ = some v5 := h5.a.cell 1
    have HOw := hide h5.r
    have HXX := hide ((unhide HX).trans h5.d)
    clear HE h5 HX
    go_wp2_with fail
    refine bodyPost_ret (results_tmp2 rfl _ _ _) rfl ⟨_, rfl, unhide HOw, unhide HXX⟩

end Go.Proofs.Ytifpjdodignflaa
end

section
namespace Go.Proofs.Ytifpjdodignflaa
open Go.ChangeShapes Go.WideShapes Go.ChangeAt Go.RowKit
attribute [local go_sem] Oper.semAt_some

structure ChI (d : List Dop) (k f : Nat) (op : Bool) (v : Value) (cs : List Dop) (w X : World) : Prop where
  ef : f = frD (d.take k)
  l : cs = (runL (d.take k)).2
  p : op = decide (cs.getLast?.map Dop.n = some (f : Int))
  n : ∀ x, cs.getLast? = some x → x.n ≤ (f : Int)
  o : X.ownsRow w.heap.size 113 3 v cs.length (opsV cs)
  d : Below w.heap.size w X
theorem ChI.open {d : List Dop} {k f : Nat} {v : Value} {cs : List Dop} {w X : World} (h : ChI d k f true v cs w X) : ∃ e x, cs = e ++ [x] ∧ x.n = (f : Int) ∧ herL f cs = e ++ [x] := by
  have hp := of_decide_eq_true h.p.symm
  obtain ⟨e, x, rfl⟩ := list_snoc (d := cs) (fun h0 => by rw [h0] at hp; simp at hp)
  exact ⟨e, x, rfl, by simpa using hp, by unfold herL; rw [if_pos hp]⟩
theorem ChI.shut {d : List Dop} {k f : Nat} {v : Value} {cs : List Dop} {w X : World} (h : ChI d k f false v cs w X) : herL f cs = cs ++ [⟨f, f, []⟩] := by
  have hp := of_decide_eq_false h.p.symm
  unfold herL; rw [if_neg hp]
theorem ChI.keep {d : List Dop} {k f m : Nat} {op : Bool} {v : Value} {cs : List Dop} {w X : World} (h : ChI d k f op v cs w X) (hk : k < d.length) (hx : d.getD k opZ = ⟨1, (m : Int), []⟩) (hm : 1 ≤ m) : ChI d (k + 1) (f + m) false v cs w X := by
  refine ⟨?_, ?_, ?_, ?_, h.o, h.d⟩
  · rw [frD_take d hk, hx, ← h.ef]; simp [frN]
  · rw [runL_take d hk, hx, h.l]; simp [stL]
  · symm
    refine decide_eq_false fun e => ?_
    cases hc : cs.getLast? with
    | none => rw [hc] at e; simp at e
    | some x => rw [hc] at e; have := h.n x hc; simp at e; omega
  · intro x hx'
    have := h.n x hx'
    omega
theorem ChI.put {d : List Dop} {k f : Nat} {t : List Int} {op : Bool} {v v' : Value} {cs e : List Dop} {x : Dop} {w X Y : World} (h : ChI d k f op v cs w X) (hk : k < d.length) (hx : d.getD k opZ = ⟨2, 0, t⟩) (hH : herL f cs = e ++ [x]) (hn : x.n = (f : Int))
    (ho : Y.ownsRow w.heap.size 113 3 v' (e ++ [(⟨x.k, x.n, t⟩ : Dop)]).length (opsV (e ++ [⟨x.k, x.n, t⟩]))) (hb : Below w.heap.size w Y) (hv : valB d = true) : ChI d (k + 1) f true v' (e ++ [⟨x.k, x.n, t⟩]) w Y := by
  have e1 : (runL (d.take k)).1 = f := (runL_at hv k (by omega)).trans h.ef.symm
  refine ⟨?_, ?_, ?_, ?_, ho, hb⟩
  · rw [frD_take d hk, hx, ← h.ef]; simp [frN]
  · rw [runL_take d hk, hx]; simp only [stL, show ¬ ((2 : Int) = 1) by decide, if_false, if_true]; rw [e1, ← h.l, hH, upL_snoc]
  · simp [hn]
  · intro y hy; simp at hy; subst hy; dsimp only; omega
theorem ChI.drop {d : List Dop} {k f m : Nat} {op : Bool} {v v' : Value} {cs e : List Dop} {x : Dop} {w X Y : World} (h : ChI d k f op v cs w X) (hk : k < d.length) (hx : d.getD k opZ = ⟨3, (m : Int), []⟩) (hH : herL f cs = e ++ [x]) (hn : x.n = (f : Int))
    (ho : Y.ownsRow w.heap.size 113 3 v' (e ++ [(⟨x.k, ((f + m : Nat) : Int), x.t⟩ : Dop)]).length (opsV (e ++ [⟨x.k, ((f + m : Nat) : Int), x.t⟩]))) (hb : Below w.heap.size w Y) (hv : valB d = true) : ChI d (k + 1) (f + m) true v' (e ++ [⟨x.k, ((f + m : Nat) : Int), x.t⟩]) w Y := by
  have e1 : (runL (d.take k)).1 = f := (runL_at hv k (by omega)).trans h.ef.symm
  refine ⟨?_, ?_, ?_, ?_, ho, hb⟩
  · rw [frD_take d hk, hx, ← h.ef]; simp [frN]
  · rw [runL_take d hk, hx]; simp only [stL, show ¬ ((3 : Int) = 1) by decide, show ¬ ((3 : Int) = 2) by decide, if_false]; rw [e1, ← h.l, hH, upL_snoc]; simp [hn]
  · simp
  · intro y hy; simp at hy; subst hy; dsimp only; omega
set_option maxRecDepth 100000 in
set_option maxHeartbeats 4000000 in
theorem RChanges_at (a : Option Addr) (c : Nat) (d : List Dop) (w : World) (h : IsO w a d) (hl : d.length ≤ 4611686018427387904) (hv : valB d = true) :
    Calls Try.prog 59 #[.slice a d.length c] w fun y w' => ∃ v, y = .returned v ∧ w'.ownsRow w.heap.size 113 3 v (runL d).2.length (opsV (runL d).2) ∧ Below w.heap.size w w' := by
  have HO := hide fun (X : World) (hx : Below w.heap.size w X) => h.below hx (Nat.le_refl _)
  have HVV := hide hv
  have hdl := val_len hv
  clear h hv
  go_enter Try.func59, Try.ntmps59
  go_wp2_with fail
  go_loopw [3, 4, 5, 6, 7, 8] (fun v3 v4 v5 v6 v7 v8 wx => (∃ z, v7 = z) ∧ (∃ z, v8 = z) ∧ (∃ (k f : Nat) (op : Bool) (cs : List Dop), v6 = .int .i64 (k : Int) ∧ v4 = .int .i64 (f : Int) ∧ v5 = .bool op ∧ k ≤ d.length ∧ Hid (ChI d k f op v3 cs w wx))) (fun _ _ _ v6 _ _ _ => d.length - (intOf v6).toNat)
  case atStart => exact ⟨⟨_, rfl⟩, ⟨_, rfl⟩, ⟨0, 0, false, [], rfl, rfl, rfl, Nat.zero_le _, hide ⟨rfl, rfl, rfl, by simp, World.ownsRow_nil _ _ _ _, Below.refl _ _⟩⟩⟩
  case round =>
    obtain ⟨⟨z1, rfl⟩, ⟨z2, rfl⟩, ⟨k, f, op, cs, rfl, rfl, rfl, hk, HI⟩⟩ := hrel
    by_cases hlt : k < d.length
    · have t1 : decide ((k : Int) < (d.length : Int)) = true := decide_eq_true (by omega)
      obtain ⟨g, off, ha', hg', _⟩ := (unhide HO w (Below.refl _ _)).three hlt
      obtain ⟨g', off', rfl, hg, e0, e1, e2⟩ := (unhide HO wr (unhide HI).d).three hlt
      obtain ⟨rfl, rfl⟩ : g' = g ∧ off' = off := by cases ha'; exact ⟨rfl, rfl⟩
      clear ha' hg
      have hgw := hg'
      clear hg'
      have hx := valB_op (unhide HVV) (getD_memD hlt)
      have hle := (frD_le d (k + 1)).1
      have hfr := frD_take d hlt
      have hz2 := (valB_nn (unhide HVV)).2.1
      rw [← (unhide HI).ef] at hfr
      have hcl : cs.length ≤ 536870912 := by have := runL_len d k hk; rw [← (unhide HI).l] at this; omega
      obtain ⟨x, hX⟩ : ∃ x, x = d.getD k opZ := ⟨_, rfl⟩
      rw [← hX] at e0 e1 e2 hx hfr
      have HX := hide hX.symm
      clear hX
      obtain ⟨xk, xn, xt⟩ := x
      dsimp only at e0 e1 e2 hx
      rcases hx with ⟨rfl | rfl, hn, rfl⟩ | ⟨rfl, rfl, hn⟩
      · obtain ⟨m, rfl⟩ : ∃ m : Nat, xn = (m : Int) := ⟨xn.toNat, by omega⟩
        simp only [frN, true_or, if_true, Int.toNat_natCast] at hfr
        have HN := hide ((unhide HI).keep hlt (unhide HX) (by omega))
        have q1 : f + m ≤ 268435456 := by omega
        clear HI HX hfr hle hz2 hcl hn hdl hk e2
        --@cut1
        go_wp2_with fail
        go_roundw
        case rel => exact ⟨⟨_, rfl⟩, ⟨_, rfl⟩, ⟨k + 1, f + m, false, cs, by go_num, by go_num, rfl, hlt, HN⟩⟩
        case measure => simp [intOf]; omega
      · obtain ⟨m, rfl⟩ : ∃ m : Nat, xn = (m : Int) := ⟨xn.toNat, by omega⟩
        simp only [frN, or_true, if_true, Int.toNat_natCast] at hfr
        have q1 : f + m ≤ 268435456 := by omega
        have e4 : wrap64 ((f : Int) + (m : Int)) = ((f + m : Nat) : Int) := by rw [wrapD _ (by omega) (by omega)]; omega
        cases op with
        | true =>
          obtain ⟨e, x, hcs, hxn, hH⟩ := (unhide HI).open
          have ho := (unhide HI).o
          rw [hcs] at ho
          obtain ⟨G, c3, rfl, hG⟩ := rowD_some ho (by simp)
          have hbX := (unhide HI).d
          obtain ⟨l0, l1, l2⟩ := opsV_last e x
          have ho' : wr.ownsRow w.heap.size 113 3 (.slice (some ⟨G, 0, none⟩) (e.length + 1) c3) (e.length + 1) (opsV (e ++ [x])) := by simpa using ho
          obtain ⟨m1, z1⟩ := rowD_cell ho' l1
          have hS := rowD_set ho' (e.length * 3 + 1) (.int .i64 ((f + m : Nat) : Int))
          rw [opsV_set1] at hS
          have hB := hbX.setCell (p := ⟨G, e.length * 3 + 1, none⟩) hG (.int .i64 ((f + m : Nat) : Int))
          have HN := hide ((unhide HI).drop (v' := .slice (some ⟨G, 0, none⟩) (e.length + 1) c3) hlt (unhide HX) hH hxn (by simpa using hS) hB (unhide HVV))
          have hq : e.length ≤ 1073741824 := by have := congrArg List.length hcs; simp at this; omega
          have hc3 : e.length + 1 ≤ c3 := by obtain ⟨_, _, he3, hc⟩ := rowD_form ho'; simp at he3; obtain ⟨_, rfl⟩ := he3; exact hc
          have hcl2 : (e ++ [x]).length = e.length + 1 := by simp
          rw [hcl2]
          clear hcl2
          clear HI HX ho ho' hS hB hxn hH l0 l1 l2 hbX hG hle hz2 hcl hn hdl hk hcs hfr
          generalize e ++ [(⟨x.k, ((f + m : Nat) : Int), x.t⟩ : Dop)] = E at *
          have e5 := (last_arith hq).1
          clear hq
          generalize e.length = q at *
          generalize hQ1 : q + 1 = Q1 at *
          have hq1 : q < Q1 := by omega
          clear hQ1
          generalize hM : f + m = M at *
          clear hM
          go_wp2_with fail
          go_roundw
          case rel => exact ⟨⟨_, rfl⟩, ⟨_, rfl⟩, ⟨k + 1, M, true, E, by go_num, by first | rfl | go_num, rfl, hlt, HN⟩⟩
          case measure => simp [intOf]; omega
        | false =>
          have hH := (unhide HI).shut
          obtain ⟨G, c3, W2, r2, ho, gr2, b2⟩ := push_ch wr w.heap.size cs.length u3 (opsV cs) (f : Int) (f : Int) ⟨#[]⟩ 110 (unhide HI).o (by omega) (unhide HI).d.size
          have hbX := (unhide HI).d.trans b2
          have he : opsV cs ++ [.int .i64 (f : Int), .int .i64 (f : Int), .string ⟨#[]⟩] = opsV (cs ++ [⟨f, f, []⟩]) := by rw [opsV_app, opsV_one]; rfl
          rw [he] at ho
          clear he
          obtain ⟨e, he⟩ : ∃ e, e = cs := ⟨_, rfl⟩
          obtain ⟨x, hxx⟩ : ∃ x : Dop, x = ⟨f, f, []⟩ := ⟨_, rfl⟩
          have hxn : x.n = (f : Int) := by rw [hxx]
          rw [← hxx, ← he] at ho hH
          rw [he] at hH
          have hH : herL f cs = e ++ [x] := by rw [hH, he]
          have hG : w.heap.size ≤ G := (rowD_block ho (G := G) rfl).1
          obtain ⟨f0, f1, f2⟩ : W2.cell? ⟨g', off' + k * 3, none⟩ = wr.cell? ⟨g', off' + k * 3, none⟩ ∧ W2.cell? ⟨g', off' + k * 3 + 1, none⟩ = wr.cell? ⟨g', off' + k * 3 + 1, none⟩ ∧ W2.cell? ⟨g', off' + k * 3 + 2, none⟩ = wr.cell? ⟨g', off' + k * 3 + 2, none⟩ := ⟨b2.cell (p := ⟨g', off' + k * 3, none⟩) hgw, b2.cell (p := ⟨g', off' + k * 3 + 1, none⟩) hgw, b2.cell (p := ⟨g', off' + k * 3 + 2, none⟩) hgw⟩
          rw [e0] at f0
          rw [e1] at f1
          rw [e2] at f2
          have hel : e.length = cs.length := by rw [he]
          rw [← hel] at r2
          have R2 := hide r2
          clear r2 gr2 b2
          obtain ⟨l0, l1, l2⟩ := opsV_last e x
          have ho' : W2.ownsRow w.heap.size 113 3 (.slice (some ⟨G, 0, none⟩) (e.length + 1) c3) (e.length + 1) (opsV (e ++ [x])) := by simpa using ho
          obtain ⟨m1, z1⟩ := rowD_cell ho' l1
          have hS := rowD_set ho' (e.length * 3 + 1) (.int .i64 ((f + m : Nat) : Int))
          rw [opsV_set1] at hS
          have hB := hbX.setCell (p := ⟨G, e.length * 3 + 1, none⟩) hG (.int .i64 ((f + m : Nat) : Int))
          have HN := hide ((unhide HI).drop (v' := .slice (some ⟨G, 0, none⟩) (e.length + 1) c3) hlt (unhide HX) hH hxn (by simpa using hS) hB (unhide HVV))
          have hq : e.length ≤ 1073741824 := by omega
          have hc3 : e.length + 1 ≤ c3 := by obtain ⟨_, _, he3, hc⟩ := rowD_form ho'; simp at he3; obtain ⟨_, rfl⟩ := he3; exact hc
          clear HI HX ho ho' hS hB hxn hH l0 l1 l2 hbX hG hle hz2 hcl hn hdl hk hxx he hel hfr
          generalize e ++ [(⟨x.k, ((f + m : Nat) : Int), x.t⟩ : Dop)] = E at *
          have e5 := (last_arith hq).1
          clear hq
          generalize e.length = q at *
          generalize hQ1 : q + 1 = Q1 at *
          have hq1 : q < Q1 := by omega
          clear hQ1
          generalize hM : f + m = M at *
          clear hM
          go_upto_region 13 with (at_builtin; refine wpList_append_known rfl _ _ 110 110 rfl _ _ rfl rfl _ _ (unhide R2) ?_; clear R2)
          clear e0 e1 e2
          go_wp2_with fail
          go_roundw
          case rel => exact ⟨⟨_, rfl⟩, ⟨_, rfl⟩, ⟨k + 1, M, true, E, by go_num, by first | rfl | go_num, rfl, hlt, HN⟩⟩
          case measure => simp [intOf]; omega
      · clear hfr
        cases op with
        | true =>
          obtain ⟨e, x, hcs, hxn, hH⟩ := (unhide HI).open
          have ho := (unhide HI).o
          rw [hcs] at ho
          obtain ⟨G, c3, rfl, hG⟩ := rowD_some ho (by simp)
          have hbX := (unhide HI).d
          obtain ⟨l0, l1, l2⟩ := opsV_last e x
          have ho' : wr.ownsRow w.heap.size 113 3 (.slice (some ⟨G, 0, none⟩) (e.length + 1) c3) (e.length + 1) (opsV (e ++ [x])) := by simpa using ho
          obtain ⟨m1, z1⟩ := rowD_cell ho' l2
          have hS := rowD_set ho' (e.length * 3 + 2) (.string (strOfNums xt))
          rw [opsV_set2] at hS
          have hB := hbX.setCell (p := ⟨G, e.length * 3 + 2, none⟩) hG (.string (strOfNums xt))
          have HN := hide ((unhide HI).put (v' := .slice (some ⟨G, 0, none⟩) (e.length + 1) c3) hlt (unhide HX) hH hxn (by simpa using hS) hB (unhide HVV))
          have hq : e.length ≤ 1073741824 := by have := congrArg List.length hcs; simp at this; omega
          have hc3 : e.length + 1 ≤ c3 := by obtain ⟨_, _, he3, hc⟩ := rowD_form ho'; simp at he3; obtain ⟨_, rfl⟩ := he3; exact hc
          have hcl2 : (e ++ [x]).length = e.length + 1 := by simp
          rw [hcl2]
          clear hcl2
          clear HI HX ho ho' hS hB hxn hH l0 l1 l2 hbX hG hle hz2 hcl hn hdl hk hcs
          generalize e ++ [(⟨x.k, x.n, xt⟩ : Dop)] = E at *
          have e5 := (last_arith hq).1
          clear hq
          generalize e.length = q at *
          generalize hQ1 : q + 1 = Q1 at *
          have hq1 : q < Q1 := by omega
          clear hQ1
          go_wp2_with fail
          go_roundw
          case rel => exact ⟨⟨_, rfl⟩, ⟨_, rfl⟩, ⟨k + 1, f, true, E, by go_num, by first | rfl | go_num, rfl, hlt, HN⟩⟩
          case measure => simp [intOf]; omega
        | false =>
          have hH := (unhide HI).shut
          obtain ⟨G, c3, W2, r2, ho, gr2, b2⟩ := push_ch wr w.heap.size cs.length u3 (opsV cs) (f : Int) (f : Int) ⟨#[]⟩ 110 (unhide HI).o (by omega) (unhide HI).d.size
          have hbX := (unhide HI).d.trans b2
          have he : opsV cs ++ [.int .i64 (f : Int), .int .i64 (f : Int), .string ⟨#[]⟩] = opsV (cs ++ [⟨f, f, []⟩]) := by rw [opsV_app, opsV_one]; rfl
          rw [he] at ho
          clear he
          obtain ⟨e, he⟩ : ∃ e, e = cs := ⟨_, rfl⟩
          obtain ⟨x, hxx⟩ : ∃ x : Dop, x = ⟨f, f, []⟩ := ⟨_, rfl⟩
          have hxn : x.n = (f : Int) := by rw [hxx]
          rw [← hxx, ← he] at ho hH
          rw [he] at hH
          have hH : herL f cs = e ++ [x] := by rw [hH, he]
          have hG : w.heap.size ≤ G := (rowD_block ho (G := G) rfl).1
          obtain ⟨f0, f1, f2⟩ : W2.cell? ⟨g', off' + k * 3, none⟩ = wr.cell? ⟨g', off' + k * 3, none⟩ ∧ W2.cell? ⟨g', off' + k * 3 + 1, none⟩ = wr.cell? ⟨g', off' + k * 3 + 1, none⟩ ∧ W2.cell? ⟨g', off' + k * 3 + 2, none⟩ = wr.cell? ⟨g', off' + k * 3 + 2, none⟩ := ⟨b2.cell (p := ⟨g', off' + k * 3, none⟩) hgw, b2.cell (p := ⟨g', off' + k * 3 + 1, none⟩) hgw, b2.cell (p := ⟨g', off' + k * 3 + 2, none⟩) hgw⟩
          rw [e0] at f0
          rw [e1] at f1
          rw [e2] at f2
          have hel : e.length = cs.length := by rw [he]
          rw [← hel] at r2
          have R2 := hide r2
          clear r2 gr2 b2
          obtain ⟨l0, l1, l2⟩ := opsV_last e x
          have ho' : W2.ownsRow w.heap.size 113 3 (.slice (some ⟨G, 0, none⟩) (e.length + 1) c3) (e.length + 1) (opsV (e ++ [x])) := by simpa using ho
          obtain ⟨m1, z1⟩ := rowD_cell ho' l2
          have hS := rowD_set ho' (e.length * 3 + 2) (.string (strOfNums xt))
          rw [opsV_set2] at hS
          have hB := hbX.setCell (p := ⟨G, e.length * 3 + 2, none⟩) hG (.string (strOfNums xt))
          have HN := hide ((unhide HI).put (v' := .slice (some ⟨G, 0, none⟩) (e.length + 1) c3) hlt (unhide HX) hH hxn (by simpa using hS) hB (unhide HVV))
          have hq : e.length ≤ 1073741824 := by omega
          have hc3 : e.length + 1 ≤ c3 := by obtain ⟨_, _, he3, hc⟩ := rowD_form ho'; simp at he3; obtain ⟨_, rfl⟩ := he3; exact hc
          clear HI HX ho ho' hS hB hxn hH l0 l1 l2 hbX hG hle hz2 hcl hn hdl hk hxx he hel
          generalize e ++ [(⟨x.k, x.n, xt⟩ : Dop)] = E at *
          have e5 := (last_arith hq).1
          clear hq
          generalize e.length = q at *
          generalize hQ1 : q + 1 = Q1 at *
          have hq1 : q < Q1 := by omega
          clear hQ1
          go_upto_region 13 with (at_builtin; refine wpList_append_known rfl _ _ 110 110 rfl _ _ rfl rfl _ _ (unhide R2) ?_; clear R2)
          clear e0 e1 e2
          go_wp2_with fail
          go_roundw
          case rel => exact ⟨⟨_, rfl⟩, ⟨_, rfl⟩, ⟨k + 1, f, true, E, by go_num, by first | rfl | go_num, rfl, hlt, HN⟩⟩
          case measure => simp [intOf]; omega
    · obtain rfl : k = d.length := by omega
      have t1 : decide (((d.length : Nat) : Int) < (d.length : Int)) = false := by simp
      have hR := (unhide HI).o
      have hL := (unhide HI).l
      rw [List.take_length] at hL
      subst hL
      have HR := hide hR
      have HB := hide (unhide HI).d
      clear HI hR hlt hk
      go_wp2_with fail
      refine bodyPost_ret (results_tmp rfl _ _ _) rfl ⟨u3, rfl, unhide HR, unhide HB⟩

end Go.Proofs.Ytifpjdodignflaa
end

section
namespace Go.Proofs.Ytifpjdodignflaa
open Go.ChangeShapes Go.WideShapes Go.ChangeAt Go.RowKit
attribute [local go_sem] Oper.semAt_some

/-- the cell ahead of the builder's -/
def rV (v : Value) : Nat → Option Value := fun j => if j = 0 then some v else none
theorem feed_snoc (e : List Dop) (x : Dop) : feedA b0 (dA (e ++ [x])) = (feedA b0 (dA e)).op x := by
  rw [dA_app, feedA_app, op_atoms]; simp [dA]
end Go.Proofs.Ytifpjdodignflaa
end
