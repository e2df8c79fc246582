/- Layer 14: linked. · Layer 14: moved. · Layer 14: Over, Both, Place. · Layer 14: a valid delta's changes; Place. -/
import Derived.Test.YtjjdgfjlpkhgcaaMg25
import Derived.Test.YtjjdgfjlpkhgcaaMg24

section
namespace Go.Proofs.Ytjjdgfjlpkhgcaa
open Go.ChangeShapes Go.WideShapes Go.ChangeAt Go.RowKit
attribute [local go_sem] Oper.semAt_some

/-- does each begin where the one ahead of it ends? -/
def lkF : Nat → List Dl → Bool
  | _, [] => true
  | n, a :: r => decide (frD a.d = n) && lkF (toD a.d) r
def lkE (ds : List Dl) (e : List Dop) : Int := if valB e = true then (if ds.all (fun x => valB x.d) = true then (if lkF (frD e) ds = true then 0 else 131) else 130) else 130
theorem drop_dl {ds : List Dl} {k : Nat} (hk : k < ds.length) : ds.drop k = ds.getD k dlZ :: ds.drop (k + 1) := by
  rw [List.drop_eq_getElem_cons hk]; simp [List.getD, List.getElem?_eq_getElem hk]
theorem mem_dl {ds : List Dl} {k : Nat} (hk : k < ds.length) : ds.getD k dlZ ∈ ds := by
  rw [List.getD_eq_getElem?_getD, List.getElem?_eq_getElem hk]; exact List.getElem_mem hk
set_option maxRecDepth 100000 in
set_option maxHeartbeats 4000000 in
theorem linked_at (G cc : Nat) (ds : List Dl) (a' : Option Addr) (c' : Nat) (e : List Dop) (w X : World) (h : IsDs w X G ds) (h' : IsO w a' e) (hd : Below w.heap.size w X) (hl : ds.length ≤ 4611686018427387904) (hl' : e.length ≤ 4611686018427387904) (hds : ∀ x ∈ ds, x.d.length ≤ 4611686018427387904) :
    Calls Try.prog 67 #[.slice (some ⟨G, 0, none⟩) ds.length cc, .slice a' e.length c'] X fun y X' => y = .returned (.int .i64 (lkE ds e)) ∧ Below X.heap.size X X' := by
  have HH := hide fun (Y : World) (hY : Below X.heap.size X Y) => h.on hY
  have HW := hide fun (Y : World) (hY : Below X.heap.size X Y) => hd.trans (hY.mono hd.size)
  have HDS := hide hds
  have HLE := hide (Lens_at a' c' e X (h'.below hd (Nat.le_refl _)) hl')
  obtain ⟨V, hV⟩ : ∃ V, V = lkE ds e := ⟨_, rfl⟩
  rw [← hV]
  unfold lkE at hV
  clear h hd hds h' hl'
  cases hve : valB e with
  | false =>
    rw [hve] at hV
    simp only [Bool.false_eq_true, if_false] at hV
    subst hV
    unfold lensV at HLE
    rw [hve] at HLE
    simp only [Bool.false_eq_true, if_false] at HLE
    clear HH HW HDS hve
    go_enter Try.func67, Try.ntmps67
    go_wp2_with fail
    refine (unhide HLE).mono ?_
    rintro y w1 ⟨rfl, x1⟩
    dsimp only
    clear HLE
    go_wp2_with fail
    refine bodyPost_ret (results_tmp rfl _ _ _) rfl ⟨rfl, x1⟩
  | true =>
    rw [hve] at hV
    simp only [if_true] at hV
    unfold lensV at HLE
    rw [hve] at HLE
    simp only [if_true] at HLE
    have HV := hide hV
    clear hve hV
    generalize frD e = fe at *
    generalize toD e = te at *
    go_enter Try.func67, Try.ntmps67
    go_wp2_with fail
    refine (unhide HLE).mono ?_
    rintro y w1 ⟨rfl, x1⟩
    dsimp only
    have HX1 := hide x1
    clear HLE x1
    go_wp2_with fail
    go_loopw [5, 8, 10, 11, 12, 13, 25, 29] (fun v5 v8 v10 v11 v12 v13 v25 v29 wx => ((∃ z, v10 = z) ∧ (∃ z, v11 = z) ∧ (∃ z, v12 = z) ∧ (∃ z, v13 = z) ∧ (∃ z, v29 = z)) ∧ ∃ (k A : Nat) (F : Bool), v25 = .int .i64 (k : Int) ∧ v5 = .int .i64 (A : Int) ∧ v8 = .bool F ∧ k ≤ ds.length ∧ Hid ((F && lkF A (ds.drop k)) = lkF fe ds ∧ (ds.drop k).all (fun x => valB x.d) = ds.all (fun x => valB x.d) ∧ Below X.heap.size X wx)) (fun _ _ _ _ _ _ v25 _ _ => ds.length - (intOf v25).toNat)
    case atStart => exact ⟨⟨⟨_, rfl⟩, ⟨_, rfl⟩, ⟨_, rfl⟩, ⟨_, rfl⟩, ⟨_, rfl⟩⟩, ⟨0, fe, true, rfl, rfl, rfl, Nat.zero_le _, hide ⟨rfl, rfl, unhide HX1⟩⟩⟩
    case round =>
      clear HX1
      obtain ⟨⟨⟨z1, rfl⟩, ⟨z2, rfl⟩, ⟨z3, rfl⟩, ⟨z4, rfl⟩, ⟨z5, rfl⟩⟩, ⟨k, A, F, rfl, rfl, rfl, hk, HI⟩⟩ := hrel
      by_cases hlt : k < ds.length
      · have s1 : decide ((k : Int) < (ds.length : Int)) = true := decide_eq_true (by omega)
        have s1' : (k : Int) < (ds.length : Int) := by omega
        have hS := unhide HH wr (unhide HI).2.2
        have q0 := hS.c k hlt
        have hO := (hS.o k hlt).1
        have hlen := unhide HDS _ (mem_dl hlt)
        have hi1 := (unhide HI).1
        have hi2 := (unhide HI).2.1
        rw [drop_dl hlt] at hi1 hi2
        have HB := hide (unhide HI).2.2
        have HLN := hide (Lens_at (ds.getD k dlZ).a (ds.getD k dlZ).c (ds.getD k dlZ).d wr (hO.below (unhide HW wr (unhide HI).2.2) (Nat.le_refl _)) hlen)
        clear HI hS hO hk hlen
        generalize ds.getD k dlZ = x at *
        obtain ⟨xa, xc, d⟩ := x
        dsimp only at q0 HLN
        simp only [lkF, List.all_cons] at hi1 hi2
        unfold lensV at HLN
        cases hvd : valB d with
        | false =>
          rw [hvd] at HLN hi2
          simp only [Bool.false_eq_true, if_false] at HLN
          simp only [Bool.false_and] at hi2
          have hV := unhide HV
          rw [← hi2] at hV
          simp only [Bool.false_eq_true, if_false] at hV
          subst hV
          clear HV hi1 hi2 hvd
          go_wp2_with fail
          refine (unhide HLN).mono ?_
          rintro y w2 ⟨rfl, x2⟩
          dsimp only
          have HX2 := hide ((unhide HB).trans (x2.mono (unhide HB).size))
          clear HLN x2 HB
          go_wp2_with fail
          refine bodyPost_ret (results_tmp rfl _ _ _) rfl ⟨rfl, unhide HX2⟩
        | true =>
          rw [hvd] at HLN hi2
          simp only [if_true] at HLN
          simp only [Bool.true_and] at hi2
          have HI2 := hide hi2
          clear hvd hi2
          go_wp2_with fail
          refine (unhide HLN).mono ?_
          rintro y w2 ⟨rfl, x2⟩
          dsimp only
          have HX2 := hide ((unhide HB).trans (x2.mono (unhide HB).size))
          clear HLN x2 HB q0
          have e1 : ((frD d : Int) == (A : Int)) = decide (frD d = A) := by
            by_cases h : frD d = A
            · rw [h]; simp
            · rw [decide_eq_false h]; simp; omega
          have e2 : (frD d == A) = decide (frD d = A) := rfl
          have HI1 := hide hi1
          clear hi1
          generalize toD d = td at *
          generalize hD : decide (frD d = A) = D at *
          clear hD
          generalize frD d = fd at *
          cases F with
          | false =>
            go_wp2_with fail
            go_roundw
            case rel => exact ⟨⟨⟨_, rfl⟩, ⟨_, rfl⟩, ⟨_, rfl⟩, ⟨_, rfl⟩, ⟨_, rfl⟩⟩, ⟨k + 1, td, false, by go_num, rfl, rfl, hlt, hide ⟨by have := unhide HI1; simpa using this, unhide HI2, unhide HX2⟩⟩⟩
            case measure => simp [intOf]; omega
          | true =>
            go_wp2_with fail
            try rw [e1]
            go_roundw
            case rel => exact ⟨⟨⟨_, rfl⟩, ⟨_, rfl⟩, ⟨_, rfl⟩, ⟨_, rfl⟩, ⟨_, rfl⟩⟩, ⟨k + 1, td, D, by go_num, rfl, by first | rfl | rw [e1] | rw [e2], hlt, hide ⟨by have := unhide HI1; simpa using this, unhide HI2, unhide HX2⟩⟩⟩
            case measure => simp [intOf]; omega
      · obtain rfl : k = ds.length := by omega
        have s1 : decide ((ds.length : Int) < (ds.length : Int)) = false := by simp
        have hi1 := (unhide HI).1
        have hi2 := (unhide HI).2.1
        rw [List.drop_length] at hi1 hi2
        simp only [lkF, Bool.and_true, List.all_nil] at hi1 hi2
        have hV := unhide HV
        rw [← hi1, ← hi2] at hV
        simp only [if_true] at hV
        have HB := hide (unhide HI).2.2
        clear HI HV hi1 hi2 hk hlt
        cases F with
        | false =>
          simp only [Bool.false_eq_true, if_false] at hV
          subst hV
          go_wp2_with fail
          refine bodyPost_ret (results_tmp rfl _ _ _) rfl ⟨rfl, unhide HB⟩
        | true =>
          simp only [if_true] at hV
          subst hV
          go_wp2_with fail
          refine bodyPost_ret (results_tmp rfl _ _ _) rfl ⟨rfl, unhide HB⟩

end Go.Proofs.Ytjjdgfjlpkhgcaa
end

section
namespace Go.Proofs.Ytjjdgfjlpkhgcaa
open Go.ChangeShapes Go.WideShapes Go.ChangeAt Go.RowKit
attribute [local go_sem] Oper.semAt_some

/-- where a place is behind changes; s: what the text has grown by ahead of them -/
def mvC (p g : Int) : Int → List Dop → Int
  | s, [] => p + s
  | s, c :: r => if p < c.k then p + s else if p ≤ c.n then (if g = 1 then c.k + s else c.k + s + (c.t.length : Int)) else mvC p g (s + ((c.t.length : Int) - (c.n - c.k))) r
structure MvK (cs : List Dop) : Prop where
  b : ∀ k, k < cs.length → 0 ≤ (cs.getD k opZ).k ∧ (cs.getD k opZ).k ≤ (cs.getD k opZ).n ∧ (cs.getD k opZ).n ≤ 268435456 ∧ (cs.getD k opZ).t.length ≤ 536870912
  s : ∀ k, k ≤ cs.length → -1073741824 ≤ dlC (cs.take k) ∧ dlC (cs.take k) ≤ 1073741824
  l : cs.length ≤ 1073741824
theorem drop_getD {cs : List Dop} {k : Nat} (hk : k < cs.length) : cs.drop k = cs.getD k opZ :: cs.drop (k + 1) := by
  rw [List.drop_eq_getElem_cons hk]; simp [List.getD, List.getElem?_eq_getElem hk]
set_option maxRecDepth 100000 in
set_option maxHeartbeats 4000000 in
theorem moved_at (a : Option Addr) (c : Nat) (cs : List Dop) (p g : Int) (w : World) (h : IsO w a cs) (hk : MvK cs) (hp : 0 ≤ p ∧ p ≤ 268435456) :
    Calls Try.prog 80 #[.slice a cs.length c, .int .i64 p, .int .i64 g] w fun y w' => y = .returned (.int .i64 (mvC p g 0 cs)) ∧ Below w.heap.size w w' := by
  have HO := hide fun (X : World) (hx : Below w.heap.size w X) => h.below hx (Nat.le_refl _)
  have HK := hide hk
  have hll := hk.l
  obtain ⟨V, hV⟩ : ∃ V, V = mvC p g 0 cs := ⟨_, rfl⟩
  rw [← hV]
  have HV := hide hV
  clear h hk hV
  go_enter Try.func80, Try.ntmps80
  go_wp2_with fail
  go_loopw [7, 9, 12] (fun v7 v9 v12 wx => (∃ z, v9 = z) ∧ ∃ (k : Nat) (s : Int), v12 = .int .i64 (k : Int) ∧ v7 = .int .i64 s ∧ k ≤ cs.length ∧ Hid (s = dlC (cs.take k) ∧ Below w.heap.size w wx ∧ V = mvC p g s (cs.drop k))) (fun _ _ v12 _ => cs.length - (intOf v12).toNat)
  case atStart => exact ⟨⟨_, rfl⟩, ⟨0, 0, rfl, rfl, Nat.zero_le _, hide ⟨by simp [dlC], Below.refl _ _, by rw [unhide HV]; rfl⟩⟩⟩
  case round =>
    clear HV
    obtain ⟨⟨z1, rfl⟩, ⟨k, s, rfl, rfl, hk, HI⟩⟩ := hrel
    have hsb := (unhide HK).s k hk
    rw [← (unhide HI).1] at hsb
    by_cases hlt : k < cs.length
    · have t1 : decide ((k : Int) < (cs.length : Int)) = true := decide_eq_true (by omega)
      obtain ⟨ga, off, hga, _, c0', c1', c2'⟩ := (unhide HO wr (unhide HI).2.1).three hlt
      have hbx := (unhide HK).b k hlt
      have hs2 := (unhide HK).s (k + 1) hlt
      have hV := (unhide HI).2.2
      rw [drop_getD hlt] at hV
      have e1 := dlC_take cs k hlt
      rw [← (unhide HI).1] at e1
      have HBW := hide (unhide HI).2.1
      clear HI hk
      subst hga
      generalize cs.getD k opZ = q at *
      obtain ⟨xk, xn, xt⟩ := q
      dsimp only at c0' c1' c2' hbx e1
      have hsz := strOfNums_size xt
      have HBN := hide ((unhide HBW).alloc (unhide HBW).size (.cells #[.int .i64 xk, .int .i64 xn, .string (strOfNums xt)] 56))
      obtain ⟨d0, d1, d2⟩ := three_nwD wr (.int .i64 xk) (.int .i64 xn) (.string (strOfNums xt)) (t := 56)
      simp only [mvC] at hV
      clear HBW
      go_upto_region 5 with fail
      clear c0' c1' c2' t1
      generalize wr.alloc (.cells #[.int .i64 xk, .int .i64 xn, .string (strOfNums xt)] 56) = v0 at *
      generalize wr.heap.size = gb at *
      generalize strOfNums xt = st at *
      generalize xt.length = L at *
      by_cases h1 : p < xk
      · have t1 : decide (p < xk) = true := decide_eq_true h1
        rw [if_pos h1] at hV
        have w1 : wrap64 (p + s) = V := by rw [wrapD _ (by omega) (by omega), hV]
        clear hV hbx hs2 e1 hsz hsb h1
        go_wp2_with fail
        try rw [w1]
        refine bodyPost_ret (results_tmp rfl _ _ _) rfl ⟨rfl, unhide HBN⟩
      · have t1 : decide (p < xk) = false := decide_eq_false h1
        rw [if_neg h1] at hV
        by_cases h2 : p ≤ xn
        · have t2 : decide (p ≤ xn) = true := decide_eq_true h2
          rw [if_pos h2] at hV
          by_cases h3 : g = 1
          · subst h3
            rw [if_pos rfl] at hV
            have w1 : wrap64 (xk + s) = V := by rw [wrapD _ (by omega) (by omega), hV]
            clear hV hbx hs2 e1 hsz hsb h1 h2
            go_wp2_with fail
            try rw [w1]
            refine bodyPost_ret (results_tmp rfl _ _ _) rfl ⟨rfl, unhide HBN⟩
          · have t3 : (g == 1) = false := by simpa using h3
            rw [if_neg h3] at hV
            have w1 : wrap64 (xk + s) = xk + s := wrapD _ (by omega) (by omega)
            have w2 : wrap64 (xk + s + (L : Int)) = V := by rw [wrapD _ (by omega) (by omega), hV]
            clear hV hbx hs2 e1 hsb h1 h2
            go_wp2_with fail
            try rw [w1, w2]
            refine bodyPost_ret (results_tmp rfl _ _ _) rfl ⟨rfl, unhide HBN⟩
        · have t2 : decide (p ≤ xn) = false := decide_eq_false h2
          rw [if_neg h2] at hV
          have w1 : wrap64 (xn - xk) = xn - xk := wrapD _ (by omega) (by omega)
          have w2 : wrap64 ((L : Int) - (xn - xk)) = (L : Int) - (xn - xk) := wrapD _ (by omega) (by omega)
          have w3 : wrap64 (s + ((L : Int) - (xn - xk))) = s + ((L : Int) - (xn - xk)) := wrapD _ (by omega) (by omega)
          have HN := hide (And.intro e1.symm (And.intro (unhide HBN) hV))
          clear hV hbx hs2 e1 hsb h1 h2
          go_wp2_with fail
          go_roundw
          case rel => exact ⟨⟨_, rfl⟩, ⟨k + 1, s + ((L : Int) - (xn - xk)), by go_num, by first | rfl | rw [w3] | rw [w1, w2, w3], hlt, HN⟩⟩
          case measure => simp [intOf]; omega
    · obtain rfl : k = cs.length := by omega
      have t1 : decide ((cs.length : Int) < (cs.length : Int)) = false := by simp
      have hV := (unhide HI).2.2
      rw [List.drop_length] at hV
      simp only [mvC] at hV
      have w1 : wrap64 (p + s) = V := by rw [wrapD _ (by omega) (by omega), hV]
      have HBW := hide (unhide HI).2.1
      clear HI hV hsb hlt hk
      go_wp2_with fail
      try rw [w1]
      refine bodyPost_ret (results_tmp rfl _ _ _) rfl ⟨rfl, unhide HBW⟩

end Go.Proofs.Ytjjdgfjlpkhgcaa
end

section
namespace Go.Proofs.Ytjjdgfjlpkhgcaa
open Go.ChangeShapes Go.WideShapes Go.ChangeAt Go.RowKit
attribute [local go_sem] Oper.semAt_some

/-- what Over answers -/
def ovE (d e : List Dop) (f : Bool) : Int := if valB d && valB e then (if frD d = frD e then (if 268435456 < toA (ovA f (dA d) (dA e)) then 5 else 0) else 131) else 130
def ovD (d e : List Dop) (f : Bool) : List Dop := if ovE d e f = 0 then canA (ovA f (dA d) (dA e)) else []
theorem lk_one (a : Option Addr) (c : Nat) (d e : List Dop) : lkE [⟨a, c, d⟩] e = if valB d && valB e then (if frD d = frD e then 0 else 131) else 130 := by
  unfold lkE
  cases h1 : valB d <;> cases h2 : valB e <;> simp [lkF, h1]
/-- Canon of what passed makes -/
theorem over_can {d e out : List Dop} {f : Bool} (hv : valB d = true) (hv' : valB e = true) (hf : frD d = frD e) (h : dA out = ovA f (dA d) (dA e)) (hk : ∀ o ∈ out, (o.k = 1 ∨ o.k = 2 ∨ o.k = 3) ∧ 0 ≤ o.n) : canD out = (ovD d e f, ovE d e f) := by
  have k := frA_dA (fun o ho => (hk o ho).1)
  have q : frA (dA d) = frA (dA e) := by rw [(frA_dA (valB_k hv)).1, (frA_dA (valB_k hv')).1, hf]
  have hfr := ov_fr f _ (dA d) (dA e) (Nat.le_refl _) q
  rw [(frA_dA (valB_k hv)).2] at hfr
  have h1 := (valB_nn hv).2.2
  have hkn : out.all knB = true := List.all_eq_true.2 fun o ho => by
    obtain ⟨k1, k2⟩ := hk o ho
    rcases k1 with k1 | k1 | k1 <;> simp [knB, k1] <;> omega
  have hlo : lonB out = decide (268435456 < toA (ovA f (dA d) (dA e))) := by
    unfold lonB
    rw [decide_eq_decide, ← k.1, ← k.2, h, hfr]
    omega
  have he : ovE d e f = if 268435456 < toA (ovA f (dA d) (dA e)) then 5 else 0 := by unfold ovE; rw [hv, hv', hf]; simp
  unfold canD ovD
  rw [hkn, hlo, he, h]
  by_cases hc : 268435456 < toA (ovA f (dA d) (dA e))
  · simp [hc]
  · simp [hc]
set_option maxRecDepth 100000 in
set_option maxHeartbeats 4000000 in
theorem Over_at (a : Option Addr) (c : Nat) (d : List Dop) (a' : Option Addr) (c' : Nat) (e : List Dop) (f : Bool) (w : World) (h : IsO w a d) (h' : IsO w a' e) (hc : d.length ≤ c) (hc' : e.length ≤ c') (ht : ∀ o ∈ d, o.t.length ≤ 140737488355328) (hl : d.length ≤ 4611686018427387904) (hl' : e.length ≤ 4611686018427387904) :
    Calls Try.prog 30 #[.slice a d.length c, .slice a' e.length c', .bool f] w fun y w' => ∃ v, y = .returned (.tuple #[v, .int .i64 (ovE d e f)]) ∧ w'.ownsRow w.heap.size 34 3 v (ovD d e f).length (opsV (ovD d e f)) ∧ Below w.heap.size w w' := by
  have kN := Cls.new w 24 #[.slice a d.length c]
  have bA := (Below.refl w.heap.size w).alloc (Nat.le_refl _) (.cells #[.slice a d.length c] 24)
  have HLK := hide (linked_at w.heap.size 1 [⟨a, c, d⟩] a' c' e w (w.alloc (.cells #[.slice a d.length c] 24)) ⟨fun i hi => by
    match i with
    | 0 => exact kN.cell 0
    | i + 1 => simp at hi, fun i hi => by
    match i with
    | 0 => exact ⟨h, ht⟩
    | i + 1 => simp at hi, kN.lt⟩ h' bA (by simp) hl' (fun x hx => by
    have e : x = ⟨a, c, d⟩ := by simpa using hx
    rw [e]; exact hl))
  rw [lk_one] at HLK
  simp only [List.length_cons, List.length_nil, Nat.zero_add] at HLK
  have HBA := hide bA
  clear kN bA
  by_cases hv : (valB d && valB e) = true
  · have hv1 : valB d = true := by revert hv; cases valB d <;> simp
    have hv2 : valB e = true := by revert hv; cases valB e <;> simp
    rw [if_pos hv] at HLK
    by_cases hf : frD d = frD e
    · rw [if_pos hf] at HLK
      have HP := hide fun (X : World) (hX : Below w.heap.size w X) => passed_at a c d a' c' e f X (h.below hX (Nat.le_refl _)) (h'.below hX (Nat.le_refl _)) hc hc' hv1 hv2 hf
      have HC := hide fun (X : World) (out : List Dop) (h1 : dA out = ovA f (dA d) (dA e)) (h2 : ∀ o ∈ out, (o.k = 1 ∨ o.k = 2 ∨ o.k = 3) ∧ 0 ≤ o.n) (h3 : out.length ≤ (dA d).length + (dA e).length) (a9 : Option Addr) (c9 : Nat) (h4 : IsO X a9 out) => And.intro (over_can hv1 hv2 hf h1 h2) (Canon_at a9 c9 out X h4 (by
        have q1 := dA_len (valB_k hv1)
        have q2 := dA_len (valB_k hv2)
        have q3 := valB_nn hv1
        have q4 := valB_nn hv2
        omega))
      clear h h' hc hc' ht hl hl' hv hv1 hv2 hf
      go_enter Try.func30, Try.ntmps30
      go_wp2_with fail
      refine (unhide HLK).mono ?_
      rintro y w1 ⟨rfl, x1⟩
      dsimp only
      have HX1 := hide ((unhide HBA).trans (x1.mono (unhide HBA).size))
      have HP1 := hide (unhide HP w1 (unhide HX1))
      clear HLK HBA HP x1
      go_wp2_with fail
      refine (unhide HP1).mono ?_
      rintro y w2 ⟨v, out, rfl, o2, ⟨e1, e2, e3⟩, x2⟩
      dsimp only
      obtain ⟨a9, c9, rfl, i9, _⟩ := own_isOC o2
      have HX2 := hide ((unhide HX1).trans (x2.mono (unhide HX1).size))
      obtain ⟨ec, hcn⟩ := unhide HC w2 out e1 e2 e3 a9 c9 i9
      rw [ec] at hcn
      have HCN := hide hcn
      clear HP1 HX1 o2 e1 e2 e3 x2 i9 HC ec hcn
      go_wp2_with fail
      refine (unhide HCN).mono ?_
      rintro y w3 ⟨v, rfl, o3, x3⟩
      dsimp only
      have HX3 := hide ((unhide HX2).trans (x3.mono (unhide HX2).size))
      have HO3 := hide (own_lower o3 (unhide HX2).size)
      clear HCN HX2 o3 x3
      go_wp2_with fail
      refine bodyPost_ret (results_tmp2 rfl _ _ _) rfl ⟨v, rfl, unhide HO3, unhide HX3⟩
    · rw [if_neg hf] at HLK
      have he : ovE d e f = 131 := by unfold ovE; rw [if_pos hv, if_neg hf]
      have hd : ovD d e f = [] := by unfold ovD; rw [he]; rfl
      rw [he, hd]
      clear h h' hc hc' ht hl hl' hv hv1 hv2 hf he hd
      go_enter Try.func30, Try.ntmps30
      go_wp2_with fail
      refine (unhide HLK).mono ?_
      rintro y w1 ⟨rfl, x1⟩
      dsimp only
      have HX1 := hide ((unhide HBA).trans (x1.mono (unhide HBA).size))
      clear HLK HBA x1
      go_wp2_with fail
      refine bodyPost_ret (results_tmp2 rfl _ _ _) rfl ⟨.slice none 0 0, rfl, row_nilD _ _, unhide HX1⟩
  · rw [if_neg hv] at HLK
    have he : ovE d e f = 130 := by unfold ovE; rw [if_neg hv]
    have hd : ovD d e f = [] := by unfold ovD; rw [he]; rfl
    rw [he, hd]
    clear h h' hc hc' ht hl hl' hv he hd
    go_enter Try.func30, Try.ntmps30
    go_wp2_with fail
    refine (unhide HLK).mono ?_
    rintro y w1 ⟨rfl, x1⟩
    dsimp only
    have HX1 := hide ((unhide HBA).trans (x1.mono (unhide HBA).size))
    clear HLK HBA x1
    go_wp2_with fail
    refine bodyPost_ret (results_tmp2 rfl _ _ _) rfl ⟨.slice none 0 0, rfl, row_nilD _ _, unhide HX1⟩

end Go.Proofs.Ytjjdgfjlpkhgcaa
end

section
namespace Go.Proofs.Ytjjdgfjlpkhgcaa
open Go.ChangeShapes Go.WideShapes Go.ChangeAt Go.RowKit
attribute [local go_sem] Oper.semAt_some

theorem chn_of_ap : ∀ {d : List Dop} (m : Int), (∀ o ∈ d, o.k = 1 ∨ o.k = 2 ∨ o.k = 3) → apL m d = true → Chn d
  | [], _, _, _ => trivial
  | [_], _, _, _ => trivial
  | o :: q :: r, m, hk, h => by
    simp only [apL, Bool.and_eq_true] at h
    refine ⟨?_, chn_of_ap (nextN o.k) (fun z hz => hk z (by simp [hz])) (by simp only [apL, Bool.and_eq_true]; exact h.2)⟩
    have h2 := h.2.1
    have ho := hk o (by simp)
    have hq := hk q (by simp)
    unfold okN
    rcases ho with h1 | h1 | h1 <;> rcases hq with h3 | h3 | h3 <;> rw [h1, h3] at h2 ⊢ <;> revert h2 <;> decide
theorem val_Can {d : List Dop} (hv : valB d = true) : Can d := by
  refine ⟨val_pln hv, chn_of_ap 7 (valB_k hv) ?_⟩
  unfold valB at hv
  simp only [Bool.and_eq_true] at hv
  exact hv.2.1
theorem gap_okL : ∀ {cs : List Dop} {p q n : Int}, GapC p cs → lstC p cs ≤ n → q ≤ p + 1 → q ≤ n → okL q cs n
  | [], _, _, _, _, _, _, h => h
  | c :: r, p, q, n, h, hl, hq, _ => by
    have h1 := h.1
    have h2 := h.2.1
    have h3 := (gap_le h.2.2).1
    simp only [lstC] at hl
    exact ⟨by omega, h2, by omega, gap_okL h.2.2 hl (by omega) (by omega)⟩
theorem gap_take : ∀ {cs : List Dop} {p : Int} (k : Nat), GapC p cs → GapC p (cs.take k) ∧ lstC p (cs.take k) ≤ lstC p cs
  | [], _, k, _ => by simp [GapC]
  | c :: r, p, 0, h => by
    have := (gap_le h).1
    simp only [List.take_zero, lstC]
    exact ⟨trivial, this⟩
  | c :: r, p, k + 1, h => by
    obtain ⟨h1, h2⟩ := gap_take k h.2.2
    simp only [List.take_succ_cons, lstC]
    exact ⟨⟨h.1, h.2.1, h1⟩, h2⟩
theorem lst0 {cs : List Dop} (h : GapC (-1) cs) : 0 ≤ lstC 0 cs ∧ (lstC 0 cs ≤ lstC (-1) cs ∨ cs = []) := by
  cases cs with
  | nil => exact ⟨Int.le_refl _, .inr rfl⟩
  | cons c r =>
    have := gap_le h
    have h2 := this.2 c (by simp)
    have h3 := (gap_le h.2.2).1
    simp only [lstC] at h3 ⊢
    have h4 := h.1
    have h5 := h.2.1
    exact ⟨by omega, .inl (Int.le_refl _)⟩
theorem opC_appS : ∀ (x y : List Dop) (p : Int), opC p (x ++ y) = opC p x ++ opC (lstC p x) y
  | [], _, _ => rfl
  | c :: r, y, p => by simp only [List.cons_append, opC, opC_appS r y c.n, lstC]
theorem toD_appS (x y : List Dop) : toD (x ++ y) = toD x + toD y := by simp [toD]
theorem mvK_of {d : List Dop} (hv : valB d = true) : MvK (runL d).2 ∧ (runL d).1 = frD d := by
  have hs := chs_run (val_Can hv)
  have hnn := (valB_nn hv).2
  have hm := hs.f
  generalize (runL d).2 = cs at *
  generalize (runL d).1 = m at *
  have hg := hs.g
  have hl := hs.l
  have hT : toD (opC 0 cs) ≤ toD d := by
    have h1 := congrArg toA hs.a
    rw [to_app, (frA_dA (opC_k 0 cs)).2, (frA_dA (valB_k hv)).2] at h1
    omega
  have key : ∀ k, 0 ≤ lstC 0 (cs.take k) ∧ lstC 0 (cs.take k) ≤ 268435456 ∧ toD (opC 0 (cs.take k)) ≤ 268435456 ∧ (toD (opC 0 (cs.take k)) : Int) = lstC 0 (cs.take k) + dlC (cs.take k) := fun k => by
    obtain ⟨t1, t2⟩ := gap_take k hg
    have t3 := lst0 t1
    have hbig : lstC (-1) cs ≤ 268435456 := by
      by_cases hc : cs = []
      · rw [hc]; simp [lstC]
      · have := lstC_two 0 (-1) hc
        omega
    have t4 : lstC 0 (cs.take k) ≤ 268435456 := by
      by_cases hc : cs.take k = []
      · rw [hc]; simp [lstC]
      · have := lstC_two 0 (-1) hc
        omega
    have t7 : lstC (-1) (cs.take k) ≤ 268435456 := by omega
    have t5 := opC_sizes (cs.take k) 0 268435456 (gap_okL t1 t7 (by omega) (by omega))
    have t6 : toD (opC 0 cs) = toD (opC 0 (cs.take k)) + toD (opC (lstC 0 (cs.take k)) (cs.drop k)) := by rw [← toD_appS, ← opC_appS, List.take_append_drop]
    exact ⟨t3.1, t4, by omega, by omega⟩
  have hbl : (cs.length : Int) ≤ 268435457 := by
    have h1 := gap_len hg
    by_cases hc : cs = []
    · rw [hc]; simp
    · have := lstC_two 0 (-1) hc
      omega
  refine ⟨⟨fun k hk => ?_, fun k _ => ?_, by omega⟩, hm⟩
  · obtain ⟨b1, b2, b3⟩ := (gap_le hg).2 _ (getD_memD hk)
    have hne : cs ≠ [] := fun e => by rw [e] at hk; simp at hk
    have b4 := lstC_two 0 (-1) hne
    have k1 := key k
    have k2 := key (k + 1)
    have e1 := dlC_take cs k hk
    have o1 := okL_at cs 0 268435456 (gap_okL hg (by omega) (by omega) (by omega)) k hk
    have e2 : lstC 0 (cs.take (k + 1)) = (cs.getD k opZ).n := by
      rw [List.take_add_one, List.getElem?_eq_getElem hk, Option.toList_some, lstC_sn]
      simp [List.getD_eq_getElem?_getD, List.getElem?_eq_getElem hk]
    exact ⟨by omega, b2, by omega, by omega⟩
  · have := key k
    exact ⟨by omega, by omega⟩
/-- what Place answers -/
def plE (d : List Dop) (p g : Int) : Int := if valB d then (if (0 ≤ p ∧ p ≤ frD d) ∧ (g = 1 ∨ g = 2) then 0 else 2) else 130
def plV (d : List Dop) (p g : Int) : Int := if plE d p g = 0 then mvC p g 0 (runL d).2 else 0

set_option maxRecDepth 100000 in
set_option maxHeartbeats 4000000 in
theorem Place_at (a : Option Addr) (c : Nat) (d : List Dop) (p g : Int) (w : World) (h : IsO w a d) (hl : d.length ≤ 4611686018427387904) :
    Calls Try.prog 64 #[.slice a d.length c, .int .i64 p, .int .i64 g] w fun y w' => y = .returned (.tuple #[.int .i64 (plV d p g), .int .i64 (plE d p g)]) ∧ Below w.heap.size w w' := by
  have HL := hide (Lens_at a c d w h hl)
  have HC := hide fun (X : World) (hX : Below w.heap.size w X) => Changes_at a c d X (h.below hX (Nat.le_refl _)) hl
  obtain ⟨V, hV⟩ : ∃ V, V = plV d p g := ⟨_, rfl⟩
  obtain ⟨E, hE⟩ : ∃ E, E = plE d p g := ⟨_, rfl⟩
  rw [← hV, ← hE]
  unfold plV at hV
  rw [← hE] at hV
  unfold plE at hE
  unfold lensV at HL
  cases hv : valB d with
  | false =>
    rw [hv] at HL hE
    simp only [Bool.false_eq_true, if_false] at HL hE
    rw [hE] at hV
    simp only [show ¬ ((130 : Int) = 0) by decide, if_false] at hV
    subst hE hV
    clear h hl HC hv
    go_enter Try.func64, Try.ntmps64
    go_wp2_with fail
    refine (unhide HL).mono ?_
    rintro y w1 ⟨rfl, x1⟩
    dsimp only
    clear HL
    go_wp2_with fail
    refine bodyPost_ret (results_tmp2 rfl _ _ _) rfl ⟨rfl, x1⟩
  | true =>
    obtain ⟨hmk, _⟩ := mvK_of hv
    have hfb := (valB_nn hv).2.1
    rw [hv] at HL hE
    simp only [if_true] at HL hE
    have hch : chD d = ((runL d).2, 0) := by unfold chD; rw [hv]; rfl
    rw [hch] at HC
    dsimp only at HC
    have HMV := hide fun (X : World) (a9 : Option Addr) (c9 : Nat) (h9 : IsO X a9 (runL d).2) (hp : 0 ≤ p ∧ p ≤ 268435456) => moved_at a9 c9 (runL d).2 p g X h9 hmk hp
    clear h hl hch hmk hv
    generalize (runL d).2 = cs at *
    generalize frD d = fr at *
    generalize toD d = td at *
    by_cases h1 : p < 0
    · rw [if_neg (by omega)] at hE
      rw [hE, if_neg (by decide)] at hV
      subst hE hV
      have t1 : decide (p < 0) = true := decide_eq_true h1
      clear HC HMV h1 hfb
      go_enter Try.func64, Try.ntmps64
      go_wp2_with fail
      refine (unhide HL).mono ?_
      rintro y w1 ⟨rfl, x1⟩
      dsimp only
      clear HL
      go_wp2_with fail
      refine bodyPost_ret (results_tmp2 rfl _ _ _) rfl ⟨rfl, x1⟩
    have t1 : decide (p < 0) = false := decide_eq_false h1
    by_cases h2 : p > (fr : Int)
    · rw [if_neg (by omega)] at hE
      rw [hE, if_neg (by decide)] at hV
      subst hE hV
      have t2 : decide (p > (fr : Int)) = true := decide_eq_true h2
      have t2' : decide ((fr : Int) < p) = true := decide_eq_true h2
      clear HC HMV h1 h2 hfb
      go_enter Try.func64, Try.ntmps64
      go_wp2_with fail
      refine (unhide HL).mono ?_
      rintro y w1 ⟨rfl, x1⟩
      dsimp only
      clear HL
      go_wp2_with fail
      refine bodyPost_ret (results_tmp2 rfl _ _ _) rfl ⟨rfl, x1⟩
    have t2 : decide (p > (fr : Int)) = false := decide_eq_false h2
    have t2' : decide ((fr : Int) < p) = false := decide_eq_false h2
    by_cases h3 : g = 1 ∨ g = 2
    · rw [if_pos (by omega)] at hE
      rw [hE, if_pos rfl] at hV
      have HP : Hid (0 ≤ p ∧ p ≤ 268435456) := hide (by omega)
      have HV := hide hV
      subst hE
      clear h1 h2 hfb hV
      rcases h3 with h3 | h3
      · subst h3
        go_enter Try.func64, Try.ntmps64
        go_wp2_with fail
        refine (unhide HL).mono ?_
        rintro y w1 ⟨rfl, x1⟩
        dsimp only
        have HX1 := hide x1
        have HC1 := hide (unhide HC w1 x1)
        clear HL HC x1
        go_wp2_with fail
        refine (unhide HC1).mono ?_
        rintro y w2 ⟨v, rfl, o2, x2⟩
        dsimp only
        obtain ⟨a9, c9, rfl, i9, _⟩ := own_isOC o2
        have HX2 := hide ((unhide HX1).trans (x2.mono (unhide HX1).size))
        have HM := hide (unhide HMV w2 a9 c9 i9 (unhide HP))
        rw [← unhide HV] at HM
        clear HC1 HX1 o2 x2 i9 HMV t1 t2 t2'
        go_wp2_with fail
        refine (unhide HM).mono ?_
        rintro y w3 ⟨rfl, x3⟩
        dsimp only
        have HX3 := hide ((unhide HX2).trans (x3.mono (unhide HX2).size))
        clear HM HX2 x3
        go_wp2_with fail
        refine bodyPost_ret (results_tmp2 rfl _ _ _) rfl ⟨rfl, unhide HX3⟩
      · subst h3
        go_enter Try.func64, Try.ntmps64
        go_wp2_with fail
        refine (unhide HL).mono ?_
        rintro y w1 ⟨rfl, x1⟩
        dsimp only
        have HX1 := hide x1
        have HC1 := hide (unhide HC w1 x1)
        clear HL HC x1
        go_wp2_with fail
        refine (unhide HC1).mono ?_
        rintro y w2 ⟨v, rfl, o2, x2⟩
        dsimp only
        obtain ⟨a9, c9, rfl, i9, _⟩ := own_isOC o2
        have HX2 := hide ((unhide HX1).trans (x2.mono (unhide HX1).size))
        have HM := hide (unhide HMV w2 a9 c9 i9 (unhide HP))
        rw [← unhide HV] at HM
        clear HC1 HX1 o2 x2 i9 HMV t1 t2 t2'
        go_wp2_with fail
        refine (unhide HM).mono ?_
        rintro y w3 ⟨rfl, x3⟩
        dsimp only
        have HX3 := hide ((unhide HX2).trans (x3.mono (unhide HX2).size))
        clear HM HX2 x3
        go_wp2_with fail
        refine bodyPost_ret (results_tmp2 rfl _ _ _) rfl ⟨rfl, unhide HX3⟩
    · rw [if_neg (by omega)] at hE
      rw [hE, if_neg (by decide)] at hV
      subst hE hV
      have t3 : (g != 1) = true := by simp; omega
      have t3' : (g == 1) = false := by simp; omega
      have t4 : (g != 2) = true := by simp; omega
      have t4' : (g == 2) = false := by simp; omega
      clear HC HMV h1 h2 hfb h3
      go_enter Try.func64, Try.ntmps64
      go_wp2_with fail
      refine (unhide HL).mono ?_
      rintro y w1 ⟨rfl, x1⟩
      dsimp only
      clear HL
      go_wp2_with fail
      refine bodyPost_ret (results_tmp2 rfl _ _ _) rfl ⟨rfl, x1⟩

end Go.Proofs.Ytjjdgfjlpkhgcaa
end
