/- Layer 14: Over, Both, Place. · Layer 14: the document's Same (as layer 13's); the law's fixed fact (written by wip/tools/sfs.py). · Layer 14: Both (written by wip/tools/sft.py). · Layer 14, the document's lens. -/
import Derived.Test.YtfllomlighlejaaMo38
import Derived.Test.YtfllomlighlejaaMo34
import Derived.Test.YtfllomlighlejaaMo30

section
namespace Go.Proofs.Ytfllomlighlejaa
open Go.ChangeShapes Go.WideShapes Go.ChangeAt Go.RowKit
attribute [local go_sem] Oper.semAt_some

/-- what Over answers -/
def ovE (d e : List Dop) (f : Bool) : Int := if valB d && valB e then (if frD d = frD e then (if 268435456 < toA (ovA f (dA d) (dA e)) then 5 else 0) else 131) else 130
def ovD (d e : List Dop) (f : Bool) : List Dop := if ovE d e f = 0 then canA (ovA f (dA d) (dA e)) else []
theorem lk_one (a : Option Addr) (c : Nat) (d e : List Dop) : lkE [⟨a, c, d⟩] e = if valB d && valB e then (if frD d = frD e then 0 else 131) else 130 := by
  unfold lkE
  cases h1 : valB d <;> cases h2 : valB e <;> simp [lkF, h1]
/-- Canon of what passed makes -/
theorem over_can {d e out : List Dop} {f : Bool} (hv : valB d = true) (hv' : valB e = true) (hf : frD d = frD e) (h : dA out = ovA f (dA d) (dA e)) (hk : ∀ o ∈ out, (o.k = 1 ∨ o.k = 2 ∨ o.k = 3) ∧ 0 ≤ o.n) : canD out = (ovD d e f, ovE d e f) := by
  have k := frA_dA (fun o ho => (hk o ho).1)
  have q : frA (dA d) = frA (dA e) := by rw [(frA_dA (valB_k hv)).1, (frA_dA (valB_k hv')).1, hf]
  have hfr := ov_fr f _ (dA d) (dA e) (Nat.le_refl _) q
  rw [(frA_dA (valB_k hv)).2] at hfr
  have h1 := (valB_nn hv).2.2
  have hkn : out.all knB = true := List.all_eq_true.2 fun o ho => by
    obtain ⟨k1, k2⟩ := hk o ho
    rcases k1 with k1 | k1 | k1 <;> simp [knB, k1] <;> omega
  have hlo : lonB out = decide (268435456 < toA (ovA f (dA d) (dA e))) := by
    unfold lonB
    rw [decide_eq_decide, ← k.1, ← k.2, h, hfr]
    omega
  have he : ovE d e f = if 268435456 < toA (ovA f (dA d) (dA e)) then 5 else 0 := by unfold ovE; rw [hv, hv', hf]; simp
  unfold canD ovD
  rw [hkn, hlo, he, h]
  by_cases hc : 268435456 < toA (ovA f (dA d) (dA e))
  · simp [hc]
  · simp [hc]
end Go.Proofs.Ytfllomlighlejaa
end

section
namespace Go.Proofs.Ytfllomlighlejaa
open Go.ChangeShapes Go.WideShapes Go.ChangeAt Go.RowKit
attribute [local go_sem] Oper.semAt_some

set_option maxRecDepth 100000 in
set_option maxHeartbeats 2000000 in
theorem RSame14_at (a : Option Addr) (c : Nat) (d : List Dop) (a' : Option Addr) (c' : Nat) (e : List Dop) (w : World) (h : IsO w a d) (h' : IsO w a' e) (hl : d.length ≤ 4611686018427387904) (_hl' : e.length ≤ 4611686018427387904) (hb : ∀ o ∈ d, TbD o) (hb' : ∀ o ∈ e, TbD o) :
    Calls Try.prog 15 #[.slice a d.length c, .slice a' e.length c'] w fun y w' => y = .returned (.bool (decide (d = e))) ∧ Below w.heap.size w w' := by
  have HO := hide fun (X : World) (hx : Below w.heap.size w X) => h.below hx (Nat.le_refl _)
  have HO' := hide fun (X : World) (hx : Below w.heap.size w X) => h'.below hx (Nat.le_refl _)
  by_cases hlen : d.length = e.length
  case neg =>
    have HV : Hid (decide (d = e) = false) := hide (decide_eq_false fun he => hlen (by rw [he]))
    have t1 : ((d.length : Int) != (e.length : Int)) = true := by simp; omega
    have t2 : ¬ d.length = e.length := hlen
    have t3 : (d.length == e.length) = false := by simpa using hlen
    clear h h' hb hb' hlen HO HO'
    rw [unhide HV]
    go_enter Try.func15, Try.ntmps15
    go_wp2_with fail
    refine bodyPost_ret (results_tmp rfl _ _ _) rfl ⟨rfl, Below.refl _ _⟩
  obtain ⟨V, hV⟩ : ∃ V, V = decide (d = e) := ⟨_, rfl⟩
  rw [← hV]
  have HV := hide hV
  have HL := hide hlen
  have HBB := hide (And.intro hb hb')
  obtain ⟨N, hN⟩ : ∃ N, N = d.length := ⟨_, rfl⟩
  have hN' : N = e.length := by rw [hN, hlen]
  have HN := hide (And.intro hN hN')
  rw [← hN, ← hN']
  have hNl : N ≤ 4611686018427387904 := by omega
  clear h h' hb hb' hlen hV hN hN' hl
  go_enter Try.func15, Try.ntmps15
  go_wp2_with fail
  go_loopw [5] (fun v5 wx => (∃ k : Nat, v5 = .int .i64 (k : Int) ∧ k ≤ N ∧ Hid (d.take k = e.take k)) ∧ Hid (Below w.heap.size w wx)) (fun v5 _ => N - (intOf v5).toNat)
  case atStart => exact ⟨⟨0, rfl, Nat.zero_le _, hide rfl⟩, hide (Below.refl _ _)⟩
  case round =>
    obtain ⟨⟨k, rfl, hk, HK⟩, HB⟩ := hrel
    by_cases hlt : k < N
    · have t1 : decide ((k : Int) < (N : Int)) = true := decide_eq_true (by omega)
      have hd1 : k < d.length := by rw [← (unhide HN).1]; exact hlt
      have he1 : k < e.length := by rw [← (unhide HN).2]; exact hlt
      obtain ⟨g, off, rfl, hg, c0, c1, c2⟩ := (unhide HO wr (unhide HB)).three hd1
      obtain ⟨g', off', rfl, hg', e0, e1, e2⟩ := (unhide HO' wr (unhide HB)).three he1
      have HQ := hide (op_neq ((unhide HBB).1 _ (getD_memE hd1)) ((unhide HBB).2 _ (getD_memE he1)))
      have HTK := hide (take_eqD hd1 he1 (unhide HK))
      have HNE : Hid (d.getD k opZ ≠ e.getD k opZ → d ≠ e) := hide fun h1 h2 => h1 (by rw [h2])
      generalize d.getD k opZ = x at *
      generalize e.getD k opZ = y at *
      obtain ⟨xk, xn, xt⟩ := x
      obtain ⟨yk, yn, yt⟩ := y
      dsimp only at c0 c1 c2 e0 e1 e2 HQ
      generalize hst : strOfNums xt = st at *
      generalize hsu : strOfNums yt = su at *
      have HST := hide hst
      have HSU := hide hsu
      clear hst hsu
      clear hd1 he1 hg hg' HK
      have HB1 := hide (unhide HB).drew
      clear HB
      rcases unhide HQ with hxy | ⟨hxy, hq⟩
      · have HK2 := hide (unhide HTK hxy)
        cases hxy
        have hst : st = su := by rw [← unhide HST, ← unhide HSU]
        subst hst
        clear HTK HNE HQ HST HSU
        go_upto_region 6 with fail
        go_region
        go_wp2_with fail
        go_roundw
        case rel => exact ⟨⟨k + 1, by go_num, hlt, HK2⟩, HB1⟩
        case measure => simp [intOf]; omega
      · have HV2 : Hid (V = false) := hide (by rw [unhide HV]; exact decide_eq_false (unhide HNE hxy))
        clear HTK HNE HQ hxy HST HSU
        rcases hq with hq | ⟨rfl, hq⟩ | ⟨rfl, rfl, hq⟩
        all_goals
          go_upto_region 6 with fail
          go_region
          go_wp2_with fail
          rw [unhide HV2]
          refine bodyPost_ret (results_tmp rfl _ _ _) rfl ⟨rfl, unhide HB1⟩
    · obtain rfl : k = N := by omega
      have t1 : decide ((k : Int) < (k : Int)) = false := decide_eq_false (by omega)
      have HV2 : Hid (V = true) := hide (by
        rw [unhide HV]
        refine decide_eq_true ?_
        have := unhide HK
        rw [(unhide HN).1, List.take_length, ← (unhide HN).1, (unhide HN).2, List.take_length] at this
        exact this)
      clear HK hk
      go_wp2_with fail
      rw [unhide HV2]
      refine bodyPost_ret (results_tmp rfl _ _ _) rfl ⟨rfl, unhide HB⟩

theorem lit_isO (X : World) (ds : List Dop) (cs : Array Value) (h : cs.toList = opsV ds) : IsO (X.alloc (.cells cs 50)) (some ⟨X.heap.size, 0, none⟩) ds := by
  refine Or.inr ⟨_, _, rfl, by simp, fun k hk => ?_⟩
  have f : ∀ j, (X.alloc (.cells cs 50)).cell? ⟨X.heap.size, j, none⟩ = cs[j]? := fun j => World.cell?_alloc_mark X _ _ (0, 0) j
  have g : ∀ j, j < 3 → cs[k * 3 + j]? = (opL (ds.getD k opZ))[j]? := fun j hj => by
    rw [← opsV_get ds k j hk hj, ← h, Array.getElem?_toList]
  refine ⟨?_, ?_, ?_⟩
  · rw [Nat.zero_add, f]; exact g 0 (by decide)
  · rw [Nat.zero_add, f]; exact g 1 (by decide)
  · rw [Nat.zero_add, f]; exact g 2 (by decide)
def exC14 : List Dop := [⟨1, 2, []⟩, ⟨2, 0, [122]⟩, ⟨1, 4, []⟩]
def exX14 : List Dop := [⟨1, 2, []⟩, ⟨2, 0, [122]⟩, ⟨1, 5, []⟩]
def exY14 : List Dop := [⟨1, 4, []⟩, ⟨2, 0, [122]⟩, ⟨1, 3, []⟩]
theorem ex14_t : ovE exD exC14 true = 0 ∧ ovD exD exC14 true = exX14 := by decide
theorem ex14_f : ovE exD exC14 false = 0 ∧ ovD exD exC14 false = exY14 := by decide
theorem ex14_l : plE exD 3 1 = 0 ∧ plV exD 3 1 = 2 := by decide
theorem ex14_r : plE exD 3 2 = 0 ∧ plV exD 3 2 = 4 := by decide
theorem ex14_b : (∀ o ∈ exX14, TbD o) ∧ (∀ o ∈ exY14, TbD o) := by unfold TbD; decide
end Go.Proofs.Ytfllomlighlejaa
end

section
namespace Go.Proofs.Ytfllomlighlejaa
open Go.ChangeShapes Go.WideShapes Go.ChangeAt Go.RowKit
attribute [local go_sem] Oper.semAt_some

def boE (d e : List Dop) : Int := if ovE e d true = 0 then ovE d e false else ovE e d true
def boA (d e : List Dop) : List Dop := if boE d e = 0 then ovD e d true else []
def boB (d e : List Dop) : List Dop := if boE d e = 0 then ovD d e false else []
/-- what Over answers where all is well -/
structure OvK (d e : List Dop) (f : Bool) : Prop where
  v1 : valB d = true
  v2 : valB e = true
  q : frD d = frD e
  l : toA (ovA f (dA d) (dA e)) ≤ 268435456
  c : ovD d e f = canA (ovA f (dA d) (dA e))
  v : valB (ovD d e f) = true
  fr : frD (ovD d e f) = toD d
  tt : toD (ovD d e f) = toA (ovA f (dA d) (dA e))
  a : dA (ovD d e f) = nfA (ovA f (dA d) (dA e))
theorem ov_ok {d e : List Dop} {f : Bool} (h : ovE d e f = 0) : OvK d e f := by
  have hd : ovD d e f = canA (ovA f (dA d) (dA e)) := by unfold ovD; rw [if_pos h]
  unfold ovE at h
  split at h
  · rename_i hv
    have hv1 : valB d = true := by revert hv; cases valB d <;> simp
    have hv2 : valB e = true := by revert hv; cases valB e <;> simp
    split at h
    · rename_i hf
      split at h
      · cases h
      · rename_i hl
        have q : frA (dA d) = frA (dA e) := by rw [(frA_dA (valB_k hv1)).1, (frA_dA (valB_k hv2)).1, hf]
        have hfr := ov_fr f _ (dA d) (dA e) (Nat.le_refl _) q
        rw [(frA_dA (valB_k hv1)).2] at hfr
        have h1 := (valB_nn hv1).2.2
        obtain ⟨c1, c2, c3, c4⟩ := canA_val (u := ovA f (dA d) (dA e)) (by omega) (by omega)
        exact ⟨hv1, hv2, hf, by omega, hd, by rw [hd]; exact c1, by rw [hd, c2]; exact hfr, by rw [hd]; exact c3, by rw [hd]; exact c4⟩
    · cases h
  · cases h
theorem bo_ok {d e : List Dop} (h : boE d e = 0) : OvK e d true ∧ OvK d e false ∧ boA d e = ovD e d true ∧ boB d e = ovD d e false := by
  have hA : boA d e = ovD e d true := by unfold boA; rw [if_pos h]
  have hB : boB d e = ovD d e false := by unfold boB; rw [if_pos h]
  unfold boE at h
  split at h
  · rename_i h1
    exact ⟨ov_ok h1, ov_ok h, hA, hB⟩
  · rename_i h1
    exact absurd h h1
/-- both orders make one delta -/
theorem bo_meet {d e : List Dop} (h : boE d e = 0) : TwoD d (boB d e) ∧ TwoD e (boA d e) ∧ cmD d (boB d e) = cmD e (boA d e) := by
  obtain ⟨o1, o2, eA, eB⟩ := bo_ok h
  rw [eA, eB]
  have t1 := two_ok o2.v1 o2.v o2.fr.symm
  have t2 := two_ok o1.v1 o1.v o1.fr.symm
  refine ⟨t1, t2, ?_⟩
  rw [t1.d, t2.d]
  refine canA_congr ?_
  rw [o2.a, o1.a, cmp_nf_right, cmp_nf_right]
  exact ov_meet _ _ _ (Nat.le_refl _) (by rw [(frA_dA (valB_k o2.v1)).1, (frA_dA (valB_k o2.v2)).1, o2.q])

end Go.Proofs.Ytfllomlighlejaa
end

section
namespace Go.Proofs.Ytfllomlighlejaa
open Go.ChangeShapes Go.WideShapes Go.ChangeAt Go.RowKit
attribute [local go_sem] Oper.semAt_some

/-- an operation that is well formed by itself -/
def PlO (o : Dop) : Prop := ((o.k = 1 ∨ o.k = 3) ∧ 1 ≤ o.n ∧ o.t = []) ∨ (o.k = 2 ∧ o.n = 0 ∧ o.t ≠ [])
theorem toD_le (d : List Dop) (k : Nat) : toD (d.take k) ≤ toD d := by
  unfold toD
  conv => rhs; rw [← List.take_append_drop k d]
  rw [List.map_append, List.sum_append]
  omega
theorem frD_le' (d : List Dop) (k : Nat) : frD (d.take k) ≤ frD d := by
  unfold frD
  conv => rhs; rw [← List.take_append_drop k d]
  rw [List.map_append, List.sum_append]
  omega
theorem ca_b {a b c : Nat} (h : c = a + b) (hc : c ≤ 1152921504606846976) : wrap64 ((a : Int) + (b : Int)) = (c : Int) ∧ wrap64 ((c : Int) + 0) = (c : Int) ∧ wrap64 (c : Int) = (c : Int) := by
  subst h
  exact ⟨by rw [wrapD _ (by omega) (by omega)]; omega, by rw [wrapD _ (by omega) (by omega)]; omega, wrapD _ (by omega) (by omega)⟩
structure LnI (d : List Dop) (k f t : Nat) : Prop where
  ef : f = frD (d.take k)
  et : t = toD (d.take k)
set_option maxRecDepth 100000 in
set_option maxHeartbeats 4000000 in
theorem lens14_at (a : Option Addr) (c : Nat) (d : List Dop) (w : World) (h : IsO w a d) (hl : d.length ≤ 4611686018427387904) (hp : ∀ o ∈ d, PlO o) (hf : frD d ≤ 1152921504606846976) (ht : toD d ≤ 1152921504606846976) :
    Calls Try.prog 24 #[.slice a d.length c] w fun y w' => y = .returned (.tuple #[.int .i64 (frD d : Int), .int .i64 (toD d : Int)]) ∧ Below w.heap.size w w' := by
  have HO := hide fun (X : World) (hx : Below w.heap.size w X) => h.below hx (Nat.le_refl _)
  have HV := hide hp
  have HZ := hide (And.intro hf ht)
  obtain ⟨L, E, hL, hE⟩ : ∃ L E, L = frD d ∧ E = toD d := ⟨_, _, rfl, rfl⟩
  rw [← hL, ← hE]
  have HLE := hide (And.intro hL hE)
  clear h hp hf ht hL hE
  go_enter Try.func24, Try.ntmps24
  go_wp2_with fail
  go_loopw [4, 5, 6] (fun v4 v5 v6 wx => (∃ (k f t : Nat), v6 = .int .i64 (k : Int) ∧ v4 = .int .i64 (f : Int) ∧ v5 = .int .i64 (t : Int) ∧ k ≤ d.length ∧ Hid (LnI d k f t)) ∧ Hid (Below w.heap.size w wx)) (fun _ _ v6 _ => d.length - (intOf v6).toNat)
  case atStart => exact ⟨⟨0, 0, 0, rfl, rfl, rfl, Nat.zero_le _, hide ⟨rfl, rfl⟩⟩, hide (Below.refl _ _)⟩
  case round =>
    obtain ⟨⟨k, f, t, rfl, rfl, rfl, hk, HI⟩, HB⟩ := hrel
    by_cases hlt : k < d.length
    · have t1 : decide ((k : Int) < (d.length : Int)) = true := decide_eq_true (by omega)
      have t1' : (k : Int) < (d.length : Int) := by omega
      obtain ⟨g, off, rfl, hg, c0, c1, c2⟩ := (unhide HO wr (unhide HB)).three hlt
      have hx := unhide HV _ (getD_memD hlt)
      have hfr := frD_take d hlt
      have hto := toD_take d hlt
      have hF := Nat.le_trans (frD_le' d (k + 1)) (unhide HZ).1
      have hT := Nat.le_trans (toD_le d (k + 1)) (unhide HZ).2
      rw [← (unhide HI).ef] at hfr
      rw [← (unhide HI).et] at hto
      have HNX : Hid (LnI d (k + 1) (frD (d.take (k + 1))) (toD (d.take (k + 1)))) := hide ⟨rfl, rfl⟩
      clear HI hk
      generalize frD (d.take (k + 1)) = F' at *
      generalize toD (d.take (k + 1)) = T' at *
      generalize d.getD k opZ = x at *
      obtain ⟨xk, xn, xt⟩ := x
      unfold PlO at hx
      dsimp only at c0 c1 c2 hx
      have hsz := strOfNums_size xt
      rcases hx with ⟨rfl | rfl, hn, rfl⟩ | ⟨rfl, rfl, hn⟩
      · obtain ⟨m, rfl⟩ : ∃ m : Nat, xn = (m : Int) := ⟨xn.toNat, by omega⟩
        rw [show frN ⟨1, (m : Int), []⟩ = m by simp [frN]] at hfr
        rw [show toN ⟨1, (m : Int), []⟩ = m by simp [toN]] at hto
        have hsz0 : (strOfNums []).size = 0 := by simpa using hsz
        obtain ⟨w1, w2, w3⟩ := ca_b hfr hF
        obtain ⟨w4, w5, w6⟩ := ca_b hto hT
        clear hfr hto hn hF hT hsz
        go_wp2_with fail
        go_roundw
        case rel => exact ⟨⟨k + 1, F', T', by go_num, by first | rfl | rw [w1] | rw [w2] | rw [w3] | rw [w1, w3], by first | rfl | rw [w4] | rw [w5] | rw [w6] | rw [w4, w6], hlt, HNX⟩, HB⟩
        case measure => simp [intOf]; omega
      · obtain ⟨m, rfl⟩ : ∃ m : Nat, xn = (m : Int) := ⟨xn.toNat, by omega⟩
        rw [show frN ⟨3, (m : Int), []⟩ = m by simp [frN]] at hfr
        rw [show toN ⟨3, (m : Int), []⟩ = 0 by simp [toN]] at hto
        have hsz0 : (strOfNums []).size = 0 := by simpa using hsz
        obtain ⟨w1, w2, w3⟩ := ca_b hfr hF
        obtain ⟨w4, w5, w6⟩ := ca_b hto hT
        obtain rfl : T' = t := by omega
        clear hfr hto hn hF hT hsz
        go_wp2_with fail
        go_roundw
        case rel => exact ⟨⟨k + 1, F', T', by go_num, by first | rfl | rw [w1] | rw [w2] | rw [w3] | rw [w1, w3], by first | rfl | rw [w4] | rw [w5] | rw [w6] | rw [w4, w6], hlt, HNX⟩, HB⟩
        case measure => simp [intOf]; omega
      · rw [show frN ⟨2, 0, xt⟩ = 0 by simp [frN]] at hfr
        rw [show toN ⟨2, 0, xt⟩ = xt.length by simp [toN]] at hto
        obtain ⟨w1, w2, w3⟩ := ca_b hfr hF
        obtain ⟨w4, w5, w6⟩ := ca_b hto hT
        obtain rfl : F' = f := by omega
        clear hfr hto hn hF hT
        go_wp2_with fail
        go_roundw
        case rel => exact ⟨⟨k + 1, F', T', by go_num, by first | rfl | rw [w1] | rw [w2] | rw [w3] | rw [w1, w3], by first | rfl | rw [w4] | rw [w5] | rw [w6] | rw [w4, w6], hlt, HNX⟩, HB⟩
        case measure => simp [intOf]; omega
    · obtain rfl : k = d.length := by omega
      have t1 : decide ((d.length : Int) < (d.length : Int)) = false := decide_eq_false (by omega)
      obtain ⟨rfl, rfl⟩ : f = L ∧ t = E := by
        have h1 := (unhide HI).ef
        have h2 := (unhide HI).et
        rw [List.take_length] at h1 h2
        exact ⟨h1.trans (unhide HLE).1.symm, h2.trans (unhide HLE).2.symm⟩
      clear HI hk
      go_wp2_with fail
      refine bodyPost_ret (results_tmp2 rfl _ _ _) rfl ⟨rfl, unhide HB⟩

end Go.Proofs.Ytfllomlighlejaa
end
