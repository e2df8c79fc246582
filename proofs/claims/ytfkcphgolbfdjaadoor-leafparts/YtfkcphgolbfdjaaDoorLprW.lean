/- LeafParts: the walk (written by wip/tools/lpr.py). -/
import Derived.Test.YtfkcphgolbfdjaaDoorLeaM
namespace Go.Proofs.YtfkcphgolbfdjaaDoor
open Go.ChangeShapes Go.WideShapes Go.ChangeAt Go.RowKit
attribute [local go_sem] Oper.semAt_some

set_option maxRecDepth 100000 in
set_option maxHeartbeats 8000000 in
theorem LeafParts_any (a0 : Option Addr) (cap : Nat) (l : List Int) (n : Int) (w : World) (hB : IsN w a0 cap l) (_hk : (Lit.int .i64 n).wf = true) (hW : Wt w) :
    Calls Tryd.prog 5 #[.slice a0 l.length cap, .int .i64 n] w fun e w' => e = .returned (.bool true) ∧ Below w.heap.size w w' := by
  clear _hk
  have HLB := hide hB.1.2.2.2
  have hnb := hB.1.2.1
  have hcap := hB.1.1
  have HAB := hide (And.intro hB hW)
  clear hB hW
  go_enter Tryd.func5, Tryd.ntmps5
  go_wp2_with fail
  refine (fixed8_at w (unhide HAB).2).mono ?_
  rintro e w1 ⟨rfl, b1⟩
  obtain ⟨v2, w2, r2, o2, x2⟩ := run_copy_own w1 a0 cap l 22 ((unhide HAB).1.below b1 (Nat.le_refl _)).1
  obtain ⟨a2, c2, rfl, n2⟩ := own_isN o2 (unhide HLB) hnb
  have b2 := b1.trans (x2.mono b1.size)
  have R2 := hide r2
  have hW2 := (unhide HAB).2.below b2
  clear r2 o2 x2 b1
  dsimp only
  go_wp2_with (at_builtin; refine wpList_append_known rfl _ _ 22 22 rfl _ _ rfl rfl _ _ (unhide R2) ?_)
  by_cases h4 : l.length ≤ 4096
  case neg =>
    have t1 : decide ((l.length : Int) > 4096) = true := decide_eq_true (by omega)
    have t2 : decide ((4096 : Int) < (l.length : Int)) = true := decide_eq_true (by omega)
    have t3 : decide (4096 < l.length) = true := decide_eq_true (by omega)
    refine (NewLong_at a2 c2 l.length w2 (by omega)).mono ?_
    rintro e w3 ⟨rfl, rfl⟩
    clear h4 n2 hW2 R2
    go_wp2_with fail
    go_ret
    exact ⟨rfl, b2⟩
  have t1 : decide ((l.length : Int) > 4096) = false := decide_eq_false (by omega)
  have t2 : decide ((4096 : Int) < (l.length : Int)) = false := decide_eq_false (by omega)
  have t3 : decide (4096 < l.length) = false := decide_eq_false (by omega)
  refine (New_at a2 c2 l w2 n2 hW2 h4).mono ?_
  rintro e w3 ⟨gl, rfl, k3, _, x3⟩
  have S3 : PaS w [(gl, l)] [] w3 := ⟨b2.trans (x3.mono b2.size), fun y hy => by rcases List.mem_singleton.1 hy with rfl; exact k3, fun y hy => by cases hy⟩
  clear k3 x3 b2 n2 hW2 R2
  dsimp only
  go_wp2_with fail
  clear t1 t2 t3
  by_cases hn : n < 0 ∨ (l.length : Int) < n
  · have HT : Hid ((decide (n < 0) = true) ∨ (decide (n < 0) = false ∧ decide (n > (l.length : Int)) = true ∧ decide ((l.length : Int) < n) = true)) := hide (by
      by_cases h1 : n < 0
      · exact Or.inl (decide_eq_true h1)
      · exact Or.inr ⟨decide_eq_false h1, decide_eq_true (by omega), decide_eq_true (by omega)⟩)
    refine (BeforeE_at gl l n w3 (S3.k (gl, l) (by simp)) hn).mono ?_
    unfold z6
    rintro e w4 ⟨rfl, x4⟩
    have S4 := S3.on x4
    clear x4 S3
    have HSE := hide fun X h => SplitE_at gl l n X h hn
    clear hn
    have S5 := S4.box #[.int .i64 0, .int .i64 0, .int .i64 0, .int .i64 0, .string ⟨#[]⟩, .string ⟨#[]⟩]
    clear S4
    go_wp2_with fail
    generalize hgW : w4.heap.size = gW at *
    clear hgW
    generalize w4.alloc (.cells #[.int .i64 0, .int .i64 0, .int .i64 0, .int .i64 0, .string ⟨#[]⟩, .string ⟨#[]⟩] 38) = w5 at *
    refine (unhide HSE w5 (S5.k (gl, l) (by simp))).mono ?_
    rintro e w6 ⟨rfl, rfl⟩
    clear HSE
    dsimp only
    go_wp2_with fail
    refine (is_at gl a0 cap l w6 (S5.k (gl, l) (by simp)) ((unhide HAB).1.below S5.d (Nat.le_refl _)).1 (by omega)).mono ?_
    rintro e w7 ⟨rfl, x7⟩
    have S7 := S5.on x7
    clear x7 S5
    obtain ⟨q0, q1, q2, q3, q4, q5, _⟩ := cells6 (S7.c (gW, #[.int .i64 0, .int .i64 0, .int .i64 0, .int .i64 0, .string ⟨#[]⟩, .string ⟨#[]⟩]) (by simp))
    have HD := hide S7.d
    clear S7
    rcases unhide HT with u1 | ⟨u1, u2, u3⟩
    · go_wp2_with fail
      go_ret
      exact ⟨rfl, unhide HD⟩
    · go_wp2_with fail
      go_ret
      exact ⟨rfl, unhide HD⟩
  · obtain ⟨m, rfl⟩ : ∃ m : Nat, n = (m : Int) := ⟨n.toNat, by omega⟩
    have hm : m ≤ l.length := by omega
    have HW := hide fun (X : World) (h : Below w.heap.size w X) => (unhide HAB).2.below h
    have HA := hide fun x (hx : x ∈ l.take m) => unhide HLB x (List.mem_of_mem_take hx)
    have HD := hide fun x (hx : x ∈ l.drop m) => unhide HLB x (List.mem_of_mem_drop hx)
    have hbe := Before_at gl m l w3 (S3.k (gl, l) (by simp)) (unhide HLB) h4 hm (unhide HW _ S3.d)
    have hla : (l.take m).length = m := by simp; omega
    have hlb : (l.drop m).length = l.length - m := by simp
    -- the contracts, in the call's words
    have HSp := hide fun X (h : PaS w [(gl, l)] [(w3.heap.size, #[])] X) => h.d
    clear HSp
    have HSP := hide fun (X : World) (h : IsLf X gl l) (hd : Below w.heap.size w X) => Split_at gl m l X h (unhide HLB) h4 hm (unhide HW _ hd)
    have hbb : Hid (∀ X : World, Below w.heap.size w X → IsB X a0 cap l) := hide fun X h => ((unhide HAB).1.below h (Nat.le_refl _)).1
    have HIs := hide fun (X : World) (h : IsLf X gl l) (hd : Below w.heap.size w X) => is_at gl a0 cap l X h (unhide hbb X hd) (by omega)
    have HOf : Hid (∀ X : World, Below w.heap.size w X → Calls Tryd.prog 14 #[.slice a0 m cap] X fun y w' => y = .returned (weV (ofL (l.take m))) ∧ Below X.heap.size X w') := hide fun X hd => by
      have := ROf_at a0 cap (l.take m) X ((unhide hbb X hd).takeP (n := m)) (by omega)
      rwa [hla] at this
    have HIx : Hid (∀ (g : Nat) (X : World), IsLf X g (l.take m) → Below w.heap.size w X → Calls Tryd.prog 10 #[.pointer (some ⟨g, 0, none⟩), .slice a0 m cap] X fun y w' => y = .returned (.bool true) ∧ Below X.heap.size X w') := hide fun g X h hd => by
      have := is_at g a0 cap (l.take m) X h ((unhide hbb X hd).takeP (n := m)) (by omega)
      rwa [hla] at this
    have HIy : Hid (∀ (g : Nat) (X : World), IsLf X g (l.drop m) → Below w.heap.size w X → Calls Tryd.prog 10 #[.pointer (some ⟨g, 0, none⟩), .slice (if cap = m then a0 else a0.map (·.add m)) (l.length - m) (cap - m)] X fun y w' => y = .returned (.bool true) ∧ Below X.heap.size X w') := hide fun g X h hd => by
      have := is_at g _ _ (l.drop m) X h ((unhide hbb X hd).loP (n := m)) (by omega)
      rwa [hlb] at this
    have HJL := hide fun (gx gy : Nat) (X : World) (hx : IsLf X gx (l.take m)) (hy : IsLf X gy (l.drop m)) (hd : Below w.heap.size w X) => JoinL_at gx gy (l.take m) (l.drop m) X hx hy (unhide HA) (unhide HD) (unhide HW _ hd) (by omega)
    rw [take_drop'] at HJL
    have HJW := hide fun (X : World) (hd : Below w.heap.size w X) => Join_at (ofL (l.take m)) (ofL (l.drop m)) X (unhide HW _ hd) (byw_of (unhide HA)) (byw_of (unhide HD))
    rw [join_of (unhide HA) (unhide HD) (by omega), take_drop'] at HJW
    have HWL := hide fun (g : Nat) (L : List Int) (X : World) (h : IsLf X g L) => WeldL_at g L X h
    have HWx := hide fun (g : Nat) (X : World) (h : IsLf X g (l.take m)) => unhide HWL g _ X h
    have HWy := hide fun (g : Nat) (X : World) (h : IsLf X g (l.drop m)) => unhide HWL g _ X h
    have HWl := hide fun (X : World) (h : IsLf X gl l) => unhide HWL gl _ X h
    clear HWL hla hlb hbb HA HD HW hn
    have u1 : decide ((m : Int) < 0) = false := decide_eq_false (by omega)
    have u2 : decide ((m : Int) > (l.length : Int)) = false := decide_eq_false (by omega)
    have u3 : decide ((l.length : Int) < (m : Int)) = false := decide_eq_false (by omega)
    have hmc : m ≤ cap := by omega
    dsimp only at HJW
    rw [we_of] at HJW HWl
    simp only [we_of] at HOf HWx HWy HJW hbe HWl
    generalize hX1 : l.take m = X1 at *
    generalize hX2 : l.drop m = X2 at *
    clear hX1 hX2
    generalize (szL X1).b = xb at *
    generalize (szL X1).r = xr at *
    generalize (szL X1).u = xu at *
    generalize (szL X1).e = xe at *
    generalize strOfNums (List.take 3 X1) = xh at *
    generalize strOfNums (tail3 X1) = xt at *
    generalize (szL X2).b = yb at *
    generalize (szL X2).r = yr at *
    generalize (szL X2).u = yu at *
    generalize (szL X2).e = ye at *
    generalize strOfNums (List.take 3 X2) = yh at *
    generalize strOfNums (tail3 X2) = yt at *
    generalize (szL l).b = zb at *
    generalize (szL l).r = zr at *
    generalize (szL l).u = zu at *
    generalize (szL l).e = ze at *
    generalize strOfNums (List.take 3 l) = zh at *
    generalize strOfNums (tail3 l) = zt at *
    refine hbe.mono ?_
    rintro e w4 ⟨rfl, x4⟩
    have S4 := S3.on x4
    clear x4 S3 hbe
    have S5 := S4.box #[.int .i64 xb, .int .i64 xr, .int .i64 xu, .int .i64 xe, .string xh, .string xt]
    clear S4
    go_wp2_with fail
    generalize hgW : w4.heap.size = gW at *
    clear hgW
    generalize w4.alloc (.cells #[.int .i64 xb, .int .i64 xr, .int .i64 xu, .int .i64 xe, .string xh, .string xt] 38) = w5 at *
    refine (unhide HSP w5 (S5.k (gl, l) (by simp)) S5.d).mono ?_
    rintro e w6 ⟨gx, gy, rfl, kx, ky, x6⟩
    have S6 := ((S5.on x6).leaf kx).leaf ky
    clear x6 S5 HSP kx ky
    dsimp only
    go_wp2_with fail
    refine (unhide HIs w6 (S6.k (gl, l) (by simp)) S6.d).mono ?_
    rintro e w7 ⟨rfl, x7⟩
    have S7 := S6.on x7
    clear x7 S6
    go_wp2_with fail
    clear u1 u2 u3
    refine (unhide HJL gx gy w7 (S7.k (gx, X1) (by simp)) (S7.k (gy, X2) (by simp)) S7.d).mono ?_
    rintro e w8 ⟨gb, rfl, kb, x8⟩
    have S8 := (S7.on x8).leaf kb
    clear x8 S7 HJL kb
    dsimp only
    go_wp2_with fail
    refine (unhide HWx gx w8 (S8.k (gx, X1) (by simp))).mono ?_
    rintro e w9 ⟨rfl, x9⟩
    have S9 := S8.on x9
    clear x9 S8 HWx
    go_wp2_with fail
    refine (unhide HWy gy w9 (S9.k (gy, X2) (by simp))).mono ?_
    rintro e w10 ⟨rfl, x10⟩
    have S10 := S9.on x10
    clear x10 S9 HWy
    go_wp2_with fail
    refine (unhide HJW w10 S10.d).mono ?_
    rintro e w11 ⟨rfl, x11⟩
    have S11 := S10.on x11
    clear x11 S10 HJW
    have S12 := S11.box #[.int .i64 zb, .int .i64 zr, .int .i64 zu, .int .i64 ze, .string zh, .string zt]
    clear S11
    go_wp2_with fail
    generalize hgZ : w11.heap.size = gZ at *
    clear hgZ
    generalize w11.alloc (.cells #[.int .i64 zb, .int .i64 zr, .int .i64 zu, .int .i64 ze, .string zh, .string zt] 38) = w12 at *
    have S13 := S12.on (drewW w12)
    clear S12
    have HSW : Hid (∀ X : World, PaS w [(gb, l), (gy, X2), (gx, X1), (gl, l)] [(gZ, #[.int .i64 zb, .int .i64 zr, .int .i64 zu, .int .i64 ze, .string zh, .string zt]), (gW, #[.int .i64 xb, .int .i64 xr, .int .i64 xu, .int .i64 xe, .string xh, .string xt])] X → (fun w' : World => (w'.cell? ⟨gW, 0, none⟩ = some (.int .i64 xb) ∧ w'.cell? ⟨gW, 1, none⟩ = some (.int .i64 xr) ∧ w'.cell? ⟨gW, 2, none⟩ = some (.int .i64 xu) ∧ w'.cell? ⟨gW, 3, none⟩ = some (.int .i64 xe) ∧ w'.cell? ⟨gW, 4, none⟩ = some (.string xh) ∧ w'.cell? ⟨gW, 5, none⟩ = some (.string xt)) ∧ (w'.cell? ⟨gZ, 0, none⟩ = some (.int .i64 zb) ∧ w'.cell? ⟨gZ, 1, none⟩ = some (.int .i64 zr) ∧ w'.cell? ⟨gZ, 2, none⟩ = some (.int .i64 zu) ∧ w'.cell? ⟨gZ, 3, none⟩ = some (.int .i64 ze) ∧ w'.cell? ⟨gZ, 4, none⟩ = some (.string zh) ∧ w'.cell? ⟨gZ, 5, none⟩ = some (.string zt))) X) := hide fun X h => by
      obtain ⟨p0, p1, p2, p3, p4, p5, _⟩ := cells6 (h.c (gW, #[.int .i64 xb, .int .i64 xr, .int .i64 xu, .int .i64 xe, .string xh, .string xt]) (by simp))
      obtain ⟨q0, q1, q2, q3, q4, q5, _⟩ := cells6 (h.c (gZ, #[.int .i64 zb, .int .i64 zr, .int .i64 zu, .int .i64 ze, .string zh, .string zt]) (by simp))
      exact ⟨⟨p0, p1, p2, p3, p4, p5⟩, q0, q1, q2, q3, q4, q5⟩
    have HIs2 := hide fun (g : Nat) (X : World) (h : IsLf X g l) (hd : Below w.heap.size w X) => is_at g a0 cap l X h ((unhide HAB).1.below hd (Nat.le_refl _)).1 (by omega)
    by_cases hcx : cap = m
    · have HC := hide (by have := unhide HIy; rw [if_pos hcx] at this; exact this)
      have sub0 : cap - m = 0 := by omega
      have sub1 : l.length - m = 0 := by omega
      rw [sub0, sub1] at HC
      clear HIy
      subst hcx
      refine regionL (S := fun w' => (w'.cell? ⟨gW, 0, none⟩ = some (.int .i64 xb) ∧ w'.cell? ⟨gW, 1, none⟩ = some (.int .i64 xr) ∧ w'.cell? ⟨gW, 2, none⟩ = some (.int .i64 xu) ∧ w'.cell? ⟨gW, 3, none⟩ = some (.int .i64 xe) ∧ w'.cell? ⟨gW, 4, none⟩ = some (.string xh) ∧ w'.cell? ⟨gW, 5, none⟩ = some (.string xt)) ∧ (w'.cell? ⟨gZ, 0, none⟩ = some (.int .i64 zb) ∧ w'.cell? ⟨gZ, 1, none⟩ = some (.int .i64 zr) ∧ w'.cell? ⟨gZ, 2, none⟩ = some (.int .i64 zu) ∧ w'.cell? ⟨gZ, 3, none⟩ = some (.int .i64 ze) ∧ w'.cell? ⟨gZ, 4, none⟩ = some (.string zh) ∧ w'.cell? ⟨gZ, 5, none⟩ = some (.string zt))) (fun _ => false) (by kernel_rfl) ?_
      generalize w12.drew = w13 at *
      refine anyL_take (i := 0) (v := ?vp0) rfl (by kernel_rfl) (by kernel_rfl) (by kernel_rfl) (by kernel_rfl) (fun _ _ _ h => h) (Or.inl ⟨by rfl, ?hp0⟩) (unhide HSW _ S13) ?_
      case hp0 => (intro w hSw; (try dsimp only at hSw); go_simp) <;> with_reducible rfl
      simp only [Act.put, List.getElem_toArray, List.getElem_cons_zero, List.setIfInBounds_toArray, List.set_cons_zero, List.set_cons_succ]
      refine anyL_take (i := 1) (v := ?vp1) rfl (by kernel_rfl) (by kernel_rfl) (by kernel_rfl) (by kernel_rfl) (fun _ _ _ h => h) (Or.inl ⟨by rfl, ?hp1⟩) (unhide HSW _ S13) ?_
      case hp1 => (intro w hSw; (try dsimp only at hSw); go_simp) <;> with_reducible rfl
      simp only [Act.put, List.getElem_toArray, List.getElem_cons_zero, List.getElem_cons_succ, List.setIfInBounds_toArray, List.set_cons_zero, List.set_cons_succ]
      refine anyL_take (i := 2) (v := ?vp2) rfl (by kernel_rfl) (by kernel_rfl) (by kernel_rfl) (by kernel_rfl) (fun _ _ _ h => h) (Or.inl ⟨by rfl, ?hp2⟩) (unhide HSW _ S13) ?_
      case hp2 => (intro w hSw; (try dsimp only at hSw); go_simp) <;> with_reducible rfl
      simp only [Act.put, List.getElem_toArray, List.getElem_cons_zero, List.getElem_cons_succ, List.setIfInBounds_toArray, List.set_cons_zero, List.set_cons_succ]
      refine anyL_take (i := 3) (v := ?vp3) rfl (by kernel_rfl) (by kernel_rfl) (by kernel_rfl) (by kernel_rfl) (fun _ _ _ h => h) (Or.inl ⟨by rfl, ?hp3⟩) (unhide HSW _ S13) ?_
      case hp3 => (intro w hSw; (try dsimp only at hSw); go_simp) <;> with_reducible rfl
      simp only [Act.put, List.getElem_toArray, List.getElem_cons_zero, List.getElem_cons_succ, List.setIfInBounds_toArray, List.set_cons_zero, List.set_cons_succ]
      refine anyL_take (i := 4) (v := ?vp4) rfl (by kernel_rfl) (by kernel_rfl) (by kernel_rfl) (by kernel_rfl) (fun _ _ _ h => h) (Or.inl ⟨by rfl, ?hp4⟩) (unhide HSW _ S13) ?_
      case hp4 => (intro w hSw; (try dsimp only at hSw); go_simp) <;> with_reducible rfl
      simp only [Act.put, List.getElem_toArray, List.getElem_cons_zero, List.getElem_cons_succ, List.setIfInBounds_toArray, List.set_cons_zero, List.set_cons_succ]
      refine anyL_take (i := 5) (v := ?vp5) rfl (by kernel_rfl) (by kernel_rfl) (by kernel_rfl) (by kernel_rfl) (fun _ _ _ h => h) (Or.inl ⟨by rfl, ?hp5⟩) (unhide HSW _ S13) ?_
      case hp5 => (intro w hSw; (try dsimp only at hSw); go_simp) <;> with_reducible rfl
      simp only [Act.put, List.getElem_toArray, List.getElem_cons_zero, List.getElem_cons_succ, List.setIfInBounds_toArray, List.set_cons_zero, List.set_cons_succ]
      refine anyL_take (i := 6) (v := ?vp6) rfl (by kernel_rfl) (by kernel_rfl) (by kernel_rfl) (by kernel_rfl) (fun _ _ _ h => h) (Or.inl ⟨by rfl, ?hp6⟩) (unhide HSW _ S13) ?_
      case hp6 => (intro w hSw; (try dsimp only at hSw); go_simp) <;> with_reducible rfl
      simp only [Act.put, List.getElem_toArray, List.getElem_cons_zero, List.getElem_cons_succ, List.setIfInBounds_toArray, List.set_cons_zero, List.set_cons_succ]
      refine anyL_take (i := 7) (v := ?vp7) rfl (by kernel_rfl) (by kernel_rfl) (by kernel_rfl) (by kernel_rfl) (fun _ _ _ h => h) (Or.inl ⟨by rfl, ?hp7⟩) (unhide HSW _ S13) ?_
      case hp7 => (intro w hSw; (try dsimp only at hSw); go_simp) <;> with_reducible rfl
      simp only [Act.put, List.getElem_toArray, List.getElem_cons_zero, List.getElem_cons_succ, List.setIfInBounds_toArray, List.set_cons_zero, List.set_cons_succ]
      refine anyL_take (i := 8) (v := ?vp8) rfl (by kernel_rfl) (by kernel_rfl) (by kernel_rfl) (by kernel_rfl) (fun _ _ _ h => h) (Or.inl ⟨by rfl, ?hp8⟩) (unhide HSW _ S13) ?_
      case hp8 => (intro w hSw; (try dsimp only at hSw); go_simp) <;> with_reducible rfl
      simp only [Act.put, List.getElem_toArray, List.getElem_cons_zero, List.getElem_cons_succ, List.setIfInBounds_toArray, List.set_cons_zero, List.set_cons_succ]
      refine anyL_take (i := 9) (v := ?vp9) rfl (by kernel_rfl) (by kernel_rfl) (by kernel_rfl) (by kernel_rfl) (fun _ _ _ h => h) (Or.inl ⟨by rfl, ?hp9⟩) (unhide HSW _ S13) ?_
      case hp9 => (intro w hSw; (try dsimp only at hSw); go_simp) <;> with_reducible rfl
      simp only [Act.put, List.getElem_toArray, List.getElem_cons_zero, List.getElem_cons_succ, List.setIfInBounds_toArray, List.set_cons_zero, List.set_cons_succ]
      refine anyL_take (i := 10) (v := ?vp10) rfl (by kernel_rfl) (by kernel_rfl) (by kernel_rfl) (by kernel_rfl) (fun _ _ _ h => h) (Or.inl ⟨by rfl, ?hp10⟩) (unhide HSW _ S13) ?_
      case hp10 => (intro w hSw; (try dsimp only at hSw); go_simp) <;> with_reducible rfl
      simp only [Act.put, List.getElem_toArray, List.getElem_cons_zero, List.getElem_cons_succ, List.setIfInBounds_toArray, List.set_cons_zero, List.set_cons_succ]
      refine anyL_take (i := 11) (v := ?vp11) rfl (by kernel_rfl) (by kernel_rfl) (by kernel_rfl) (by kernel_rfl) (fun _ _ _ h => h) (Or.inl ⟨by rfl, ?hp11⟩) (unhide HSW _ S13) ?_
      case hp11 => (intro w hSw; (try dsimp only at hSw); go_simp) <;> with_reducible rfl
      simp only [Act.put, List.getElem_toArray, List.getElem_cons_zero, List.getElem_cons_succ, List.setIfInBounds_toArray, List.set_cons_zero, List.set_cons_succ]
      refine anyL_take (i := 12) (v := ?vp12) rfl (by kernel_rfl) (by kernel_rfl) (by kernel_rfl) (by kernel_rfl) (fun _ _ _ h => h) (Or.inl ⟨by rfl, ?hp12⟩) (unhide HSW _ S13) ?_
      case hp12 => (intro w hSw; (try dsimp only at hSw); go_simp) <;> with_reducible rfl
      simp only [Act.put, List.getElem_toArray, List.getElem_cons_zero, List.getElem_cons_succ, List.setIfInBounds_toArray, List.set_cons_zero, List.set_cons_succ]
      refine anyL_take (i := 13) (v := ?vp13) rfl (by kernel_rfl) (by kernel_rfl) (by kernel_rfl) (by kernel_rfl) (fun _ _ _ h => h) (Or.inl ⟨by rfl, ?hp13⟩) (unhide HSW _ S13) ?_
      case hp13 => (intro w hSw; (try dsimp only at hSw); go_simp) <;> with_reducible rfl
      simp only [Act.put, List.getElem_toArray, List.getElem_cons_zero, List.getElem_cons_succ, List.setIfInBounds_toArray, List.set_cons_zero, List.set_cons_succ]
      refine anyL_take (i := 14) (v := ?vp14) rfl (by kernel_rfl) (by kernel_rfl) (by kernel_rfl) (by kernel_rfl) (fun _ _ _ h => h) (Or.inl ⟨by rfl, ?hp14⟩) (unhide HSW _ S13) ?_
      case hp14 => (intro w hSw; (try dsimp only at hSw); go_simp) <;> with_reducible rfl
      simp only [Act.put, List.getElem_toArray, List.getElem_cons_zero, List.getElem_cons_succ, List.setIfInBounds_toArray, List.set_cons_zero, List.set_cons_succ]
      refine anyL_take (i := 15) (v := ?vp15) rfl (by kernel_rfl) (by kernel_rfl) (by kernel_rfl) (by kernel_rfl) (fun _ _ _ h => h) (Or.inl ⟨by rfl, ?hp15⟩) (unhide HSW _ S13) ?_
      case hp15 => (intro w hSw; (try dsimp only at hSw); go_simp) <;> with_reducible rfl
      simp only [Act.put, List.getElem_toArray, List.getElem_cons_zero, List.getElem_cons_succ, List.setIfInBounds_toArray, List.set_cons_zero, List.set_cons_succ]
      refine anyL_take (i := 16) (v := ?vp16) rfl (by kernel_rfl) (by kernel_rfl) (by kernel_rfl) (by kernel_rfl) (fun _ _ _ h => h) (Or.inl ⟨by rfl, ?hp16⟩) (unhide HSW _ S13) ?_
      case hp16 => (intro w hSw; (try dsimp only at hSw); go_simp) <;> with_reducible rfl
      simp only [Act.put, List.getElem_toArray, List.getElem_cons_zero, List.getElem_cons_succ, List.setIfInBounds_toArray, List.set_cons_zero, List.set_cons_succ]
      refine anyL_take (i := 17) (v := ?vp17) rfl (by kernel_rfl) (by kernel_rfl) (by kernel_rfl) (by kernel_rfl) (fun _ _ _ h => h) (Or.inl ⟨by rfl, ?hp17⟩) (unhide HSW _ S13) ?_
      case hp17 => (intro w hSw; (try dsimp only at hSw); go_simp) <;> with_reducible rfl
      simp only [Act.put, List.getElem_toArray, List.getElem_cons_zero, List.getElem_cons_succ, List.setIfInBounds_toArray, List.set_cons_zero, List.set_cons_succ]
      refine anyL_take (i := 18) (v := ?vp18) rfl (by kernel_rfl) (by kernel_rfl) (by kernel_rfl) (by kernel_rfl) (fun _ _ _ h => h) (Or.inl ⟨by rfl, ?hp18⟩) (unhide HSW _ S13) ?_
      case hp18 => (intro w hSw; (try dsimp only at hSw); go_simp) <;> with_reducible rfl
      simp only [Act.put, List.getElem_toArray, List.getElem_cons_zero, List.getElem_cons_succ, List.setIfInBounds_toArray, List.set_cons_zero, List.set_cons_succ]
      refine anyL_ready (rs := [19]) (by kernel_rfl) (by simp) ?_
      refine AllL.cons rfl (fun K hK => ?_) AllL.nil
      go_simp
      refine (unhide HOf _ S13.d).mono ?_
      rintro e w14 ⟨rfl, x14⟩
      have S14 := S13.on x14
      refine unhide hK _ _ (fun _ => unhide HSW _ S14) ?_
      clear hK K x14 S13
      refine anyL_take (i := 20) (v := ?vp19) rfl (by kernel_rfl) (by kernel_rfl) (by kernel_rfl) (by kernel_rfl) (fun _ _ _ h => h) (Or.inl ⟨by rfl, ?hp19⟩) (unhide HSW _ S14) ?_
      case hp19 => (intro w hSw; (try dsimp only at hSw); go_simp) <;> with_reducible rfl
      simp only [Act.put, List.getElem_toArray, List.getElem_cons_zero, List.getElem_cons_succ, List.setIfInBounds_toArray, List.set_cons_zero, List.set_cons_succ]
      refine anyL_take (i := 21) (v := ?vp20) rfl (by kernel_rfl) (by kernel_rfl) (by kernel_rfl) (by kernel_rfl) (fun _ _ _ h => h) (Or.inl ⟨by rfl, ?hp20⟩) (unhide HSW _ S14) ?_
      case hp20 => (intro w hSw; (try dsimp only at hSw); go_simp) <;> with_reducible rfl
      simp only [Act.put, List.getElem_toArray, List.getElem_cons_zero, List.getElem_cons_succ, List.setIfInBounds_toArray, List.set_cons_zero, List.set_cons_succ]
      refine anyL_take (i := 22) (v := ?vp21) rfl (by kernel_rfl) (by kernel_rfl) (by kernel_rfl) (by kernel_rfl) (fun _ _ _ h => h) (Or.inl ⟨by rfl, ?hp21⟩) (unhide HSW _ S14) ?_
      case hp21 => (intro w hSw; (try dsimp only at hSw); go_simp) <;> with_reducible rfl
      simp only [Act.put, List.getElem_toArray, List.getElem_cons_zero, List.getElem_cons_succ, List.setIfInBounds_toArray, List.set_cons_zero, List.set_cons_succ]
      refine anyL_take (i := 23) (v := ?vp22) rfl (by kernel_rfl) (by kernel_rfl) (by kernel_rfl) (by kernel_rfl) (fun _ _ _ h => h) (Or.inl ⟨by rfl, ?hp22⟩) (unhide HSW _ S14) ?_
      case hp22 => (intro w hSw; (try dsimp only at hSw); go_simp) <;> with_reducible rfl
      simp only [Act.put, List.getElem_toArray, List.getElem_cons_zero, List.getElem_cons_succ, List.setIfInBounds_toArray, List.set_cons_zero, List.set_cons_succ]
      refine anyL_take (i := 24) (v := ?vp23) rfl (by kernel_rfl) (by kernel_rfl) (by kernel_rfl) (by kernel_rfl) (fun _ _ _ h => h) (Or.inl ⟨by rfl, ?hp23⟩) (unhide HSW _ S14) ?_
      case hp23 => (intro w hSw; (try dsimp only at hSw); go_simp) <;> with_reducible rfl
      simp only [Act.put, List.getElem_toArray, List.getElem_cons_zero, List.getElem_cons_succ, List.setIfInBounds_toArray, List.set_cons_zero, List.set_cons_succ]
      refine anyL_take (i := 25) (v := ?vp24) rfl (by kernel_rfl) (by kernel_rfl) (by kernel_rfl) (by kernel_rfl) (fun _ _ _ h => h) (Or.inl ⟨by rfl, ?hp24⟩) (unhide HSW _ S14) ?_
      case hp24 => (intro w hSw; (try dsimp only at hSw); go_simp) <;> with_reducible rfl
      simp only [Act.put, List.getElem_toArray, List.getElem_cons_zero, List.getElem_cons_succ, List.setIfInBounds_toArray, List.set_cons_zero, List.set_cons_succ]
      refine anyL_take (i := 26) (v := ?vp25) rfl (by kernel_rfl) (by kernel_rfl) (by kernel_rfl) (by kernel_rfl) (fun _ _ _ h => h) (Or.inl ⟨by rfl, ?hp25⟩) (unhide HSW _ S14) ?_
      case hp25 => (intro w hSw; (try dsimp only at hSw); go_simp) <;> with_reducible rfl
      simp only [Act.put, List.getElem_toArray, List.getElem_cons_zero, List.getElem_cons_succ, List.setIfInBounds_toArray, List.set_cons_zero, List.set_cons_succ]
      refine anyL_ready (rs := [27]) (by kernel_rfl) (by simp) ?_
      refine AllL.cons rfl (fun K hK => ?_) AllL.nil
      go_simp
      refine (unhide HIx gx _ (S14.k (gx, X1) (by simp)) S14.d).mono ?_
      rintro e w15 ⟨rfl, x15⟩
      have S15 := S14.on x15
      refine unhide hK _ _ (fun _ => unhide HSW _ S15) ?_
      clear hK K x15 S14
      refine anyL_take (i := 28) (v := ?vp26) rfl (by kernel_rfl) (by kernel_rfl) (by kernel_rfl) (by kernel_rfl) (fun _ _ _ h => h) (Or.inl ⟨by rfl, ?hp26⟩) (unhide HSW _ S15) ?_
      case hp26 => (intro w hSw; (try dsimp only at hSw); go_simp) <;> with_reducible rfl
      simp only [Act.put, List.getElem_toArray, List.getElem_cons_zero, List.getElem_cons_succ, List.setIfInBounds_toArray, List.set_cons_zero, List.set_cons_succ]
      refine anyL_take (i := 29) (v := ?vp27) rfl (by kernel_rfl) (by kernel_rfl) (by kernel_rfl) (by kernel_rfl) (fun _ _ _ h => h) (Or.inl ⟨by rfl, ?hp27⟩) (unhide HSW _ S15) ?_
      case hp27 => (intro w hSw; (try dsimp only at hSw); go_simp) <;> with_reducible rfl
      simp only [Act.put, List.getElem_toArray, List.getElem_cons_zero, List.getElem_cons_succ, List.setIfInBounds_toArray, List.set_cons_zero, List.set_cons_succ]
      refine anyL_take (i := 30) (v := ?vp28) rfl (by kernel_rfl) (by kernel_rfl) (by kernel_rfl) (by kernel_rfl) (fun _ _ _ h => h) (Or.inl ⟨by rfl, ?hp28⟩) (unhide HSW _ S15) ?_
      case hp28 => (intro w hSw; (try dsimp only at hSw); go_simp) <;> with_reducible rfl
      simp only [Act.put, List.getElem_toArray, List.getElem_cons_zero, List.getElem_cons_succ, List.setIfInBounds_toArray, List.set_cons_zero, List.set_cons_succ]
      refine anyL_take (i := 31) (v := ?vp29) rfl (by kernel_rfl) (by kernel_rfl) (by kernel_rfl) (by kernel_rfl) (fun _ _ _ h => h) (Or.inl ⟨by rfl, ?hp29⟩) (unhide HSW _ S15) ?_
      case hp29 => (intro w hSw; (try dsimp only at hSw); go_simp) <;> with_reducible rfl
      simp only [Act.put, List.getElem_toArray, List.getElem_cons_zero, List.getElem_cons_succ, List.setIfInBounds_toArray, List.set_cons_zero, List.set_cons_succ]
      refine anyL_take (i := 32) (v := ?vp30) rfl (by kernel_rfl) (by kernel_rfl) (by kernel_rfl) (by kernel_rfl) (fun _ _ _ h => h) (Or.inl ⟨by rfl, ?hp30⟩) (unhide HSW _ S15) ?_
      case hp30 => (intro w hSw; (try dsimp only at hSw); go_simp) <;> with_reducible rfl
      simp only [Act.put, List.getElem_toArray, List.getElem_cons_zero, List.getElem_cons_succ, List.setIfInBounds_toArray, List.set_cons_zero, List.set_cons_succ]
      refine anyL_take (i := 33) (v := ?vp31) rfl (by kernel_rfl) (by kernel_rfl) (by kernel_rfl) (by kernel_rfl) (fun _ _ _ h => h) (Or.inl ⟨by rfl, ?hp31⟩) (unhide HSW _ S15) ?_
      case hp31 => (intro w hSw; (try dsimp only at hSw); go_simp) <;> with_reducible rfl
      simp only [Act.put, List.getElem_toArray, List.getElem_cons_zero, List.getElem_cons_succ, List.setIfInBounds_toArray, List.set_cons_zero, List.set_cons_succ]
      refine anyL_ready (rs := [34]) (by kernel_rfl) (by simp) ?_
      refine AllL.cons rfl (fun K hK => ?_) AllL.nil
      go_simp
      refine (unhide HC gy _ (S15.k (gy, X2) (by simp)) S15.d).mono ?_
      rintro e w16 ⟨rfl, x16⟩
      have S16 := S15.on x16
      refine unhide hK _ _ (fun _ => unhide HSW _ S16) ?_
      clear hK K x16 S15
      refine anyL_take (i := 35) (v := ?vp32) rfl (by kernel_rfl) (by kernel_rfl) (by kernel_rfl) (by kernel_rfl) (fun _ _ _ h => h) (Or.inl ⟨by rfl, ?hp32⟩) (unhide HSW _ S16) ?_
      case hp32 => (intro w hSw; (try dsimp only at hSw); go_simp) <;> with_reducible rfl
      simp only [Act.put, List.getElem_toArray, List.getElem_cons_zero, List.getElem_cons_succ, List.setIfInBounds_toArray, List.set_cons_zero, List.set_cons_succ]
      refine anyL_take (i := 36) (v := ?vp33) rfl (by kernel_rfl) (by kernel_rfl) (by kernel_rfl) (by kernel_rfl) (fun _ _ _ h => h) (Or.inl ⟨by rfl, ?hp33⟩) (unhide HSW _ S16) ?_
      case hp33 => (intro w hSw; (try dsimp only at hSw); go_simp) <;> with_reducible rfl
      simp only [Act.put, List.getElem_toArray, List.getElem_cons_zero, List.getElem_cons_succ, List.setIfInBounds_toArray, List.set_cons_zero, List.set_cons_succ]
      refine anyL_take (i := 37) (v := ?vp34) rfl (by kernel_rfl) (by kernel_rfl) (by kernel_rfl) (by kernel_rfl) (fun _ _ _ h => h) (Or.inl ⟨by rfl, ?hp34⟩) (unhide HSW _ S16) ?_
      case hp34 => (intro w hSw; (try dsimp only at hSw); go_simp) <;> with_reducible rfl
      simp only [Act.put, List.getElem_toArray, List.getElem_cons_zero, List.getElem_cons_succ, List.setIfInBounds_toArray, List.set_cons_zero, List.set_cons_succ]
      refine anyL_take (i := 38) (v := ?vp35) rfl (by kernel_rfl) (by kernel_rfl) (by kernel_rfl) (by kernel_rfl) (fun _ _ _ h => h) (Or.inl ⟨by rfl, ?hp35⟩) (unhide HSW _ S16) ?_
      case hp35 => (intro w hSw; (try dsimp only at hSw); go_simp) <;> with_reducible rfl
      simp only [Act.put, List.getElem_toArray, List.getElem_cons_zero, List.getElem_cons_succ, List.setIfInBounds_toArray, List.set_cons_zero, List.set_cons_succ]
      refine anyL_ready (rs := [39]) (by kernel_rfl) (by simp) ?_
      refine AllL.cons rfl (fun K hK => ?_) AllL.nil
      go_simp
      refine (unhide HIs2 gb _ (S16.k (gb, l) (by simp)) S16.d).mono ?_
      rintro e w17 ⟨rfl, x17⟩
      have S17 := S16.on x17
      refine unhide hK _ _ (fun _ => unhide HSW _ S17) ?_
      clear hK K x17 S16
      refine anyL_take (i := 40) (v := ?vp36) rfl (by kernel_rfl) (by kernel_rfl) (by kernel_rfl) (by kernel_rfl) (fun _ _ _ h => h) (Or.inl ⟨by rfl, ?hp36⟩) (unhide HSW _ S17) ?_
      case hp36 => (intro w hSw; (try dsimp only at hSw); go_simp) <;> with_reducible rfl
      simp only [Act.put, List.getElem_toArray, List.getElem_cons_zero, List.getElem_cons_succ, List.setIfInBounds_toArray, List.set_cons_zero, List.set_cons_succ]
      refine anyL_take (i := 41) (v := ?vp37) rfl (by kernel_rfl) (by kernel_rfl) (by kernel_rfl) (by kernel_rfl) (fun _ _ _ h => h) (Or.inl ⟨by rfl, ?hp37⟩) (unhide HSW _ S17) ?_
      case hp37 => (intro w hSw; (try dsimp only at hSw); go_simp) <;> with_reducible rfl
      simp only [Act.put, List.getElem_toArray, List.getElem_cons_zero, List.getElem_cons_succ, List.setIfInBounds_toArray, List.set_cons_zero, List.set_cons_succ]
      refine anyL_take (i := 42) (v := ?vp38) rfl (by kernel_rfl) (by kernel_rfl) (by kernel_rfl) (by kernel_rfl) (fun _ _ _ h => h) (Or.inl ⟨by rfl, ?hp38⟩) (unhide HSW _ S17) ?_
      case hp38 => (intro w hSw; (try dsimp only at hSw); go_simp) <;> with_reducible rfl
      simp only [Act.put, List.getElem_toArray, List.getElem_cons_zero, List.getElem_cons_succ, List.setIfInBounds_toArray, List.set_cons_zero, List.set_cons_succ]
      refine anyL_take (i := 43) (v := ?vp39) rfl (by kernel_rfl) (by kernel_rfl) (by kernel_rfl) (by kernel_rfl) (fun _ _ _ h => h) (Or.inl ⟨by rfl, ?hp39⟩) (unhide HSW _ S17) ?_
      case hp39 => (intro w hSw; (try dsimp only at hSw); go_simp) <;> with_reducible rfl
      simp only [Act.put, List.getElem_toArray, List.getElem_cons_zero, List.getElem_cons_succ, List.setIfInBounds_toArray, List.set_cons_zero, List.set_cons_succ]
      refine anyL_ready (rs := [44]) (by kernel_rfl) (by simp) ?_
      refine AllL.cons rfl (fun K hK => ?_) AllL.nil
      go_simp
      refine (unhide HWl _ (S17.k (gl, l) (by simp))).mono ?_
      rintro e w18 ⟨rfl, x18⟩
      have S18 := S17.on x18
      refine unhide hK _ _ (fun _ => unhide HSW _ S18) ?_
      clear hK K x18 S17
      refine anyL_take (i := 45) (v := ?vp40) rfl (by kernel_rfl) (by kernel_rfl) (by kernel_rfl) (by kernel_rfl) (fun _ _ _ h => h) (Or.inl ⟨by rfl, ?hp40⟩) (unhide HSW _ S18) ?_
      case hp40 => (intro w hSw; (try dsimp only at hSw); go_simp) <;> with_reducible rfl
      simp only [Act.put, List.getElem_toArray, List.getElem_cons_zero, List.getElem_cons_succ, List.setIfInBounds_toArray, List.set_cons_zero, List.set_cons_succ]
      refine anyL_take (i := 46) (v := ?vp41) rfl (by kernel_rfl) (by kernel_rfl) (by kernel_rfl) (by kernel_rfl) (fun _ _ _ h => h) (Or.inl ⟨by rfl, ?hp41⟩) (unhide HSW _ S18) ?_
      case hp41 => (intro w hSw; (try dsimp only at hSw); go_simp) <;> with_reducible rfl
      simp only [Act.put, List.getElem_toArray, List.getElem_cons_zero, List.getElem_cons_succ, List.setIfInBounds_toArray, List.set_cons_zero, List.set_cons_succ]
      refine anyL_take (i := 47) (v := ?vp42) rfl (by kernel_rfl) (by kernel_rfl) (by kernel_rfl) (by kernel_rfl) (fun _ _ _ h => h) (Or.inl ⟨by rfl, ?hp42⟩) (unhide HSW _ S18) ?_
      case hp42 => (intro w hSw; (try dsimp only at hSw); go_simp) <;> with_reducible rfl
      simp only [Act.put, List.getElem_toArray, List.getElem_cons_zero, List.getElem_cons_succ, List.setIfInBounds_toArray, List.set_cons_zero, List.set_cons_succ]
      refine anyL_take (i := 48) (v := ?vp43) rfl (by kernel_rfl) (by kernel_rfl) (by kernel_rfl) (by kernel_rfl) (fun _ _ _ h => h) (Or.inl ⟨by rfl, ?hp43⟩) (unhide HSW _ S18) ?_
      case hp43 => (intro w hSw; (try dsimp only at hSw); go_simp) <;> with_reducible rfl
      simp only [Act.put, List.getElem_toArray, List.getElem_cons_zero, List.getElem_cons_succ, List.setIfInBounds_toArray, List.set_cons_zero, List.set_cons_succ]
      refine anyL_take (i := 49) (v := ?vp44) rfl (by kernel_rfl) (by kernel_rfl) (by kernel_rfl) (by kernel_rfl) (fun _ _ _ h => h) (Or.inl ⟨by rfl, ?hp44⟩) (unhide HSW _ S18) ?_
      case hp44 => (intro w hSw; (try dsimp only at hSw); go_simp) <;> with_reducible rfl
      simp only [Act.put, List.getElem_toArray, List.getElem_cons_zero, List.getElem_cons_succ, List.setIfInBounds_toArray, List.set_cons_zero, List.set_cons_succ]
      refine anyL_ready (rs := [50]) (by kernel_rfl) (by simp) ?_
      refine AllL.cons rfl (fun K hK => ?_) AllL.nil
      go_simp
      refine (unhide HIs _ (S18.k (gl, l) (by simp)) S18.d).mono ?_
      rintro e w19 ⟨rfl, x19⟩
      have S19 := S18.on x19
      refine unhide hK _ _ (fun _ => unhide HSW _ S19) ?_
      clear hK K x19 S18
      refine anyL_take (i := 51) (v := ?vp45) rfl (by kernel_rfl) (by kernel_rfl) (by kernel_rfl) (by kernel_rfl) (fun _ _ _ h => h) (Or.inl ⟨by rfl, ?hp45⟩) (unhide HSW _ S19) ?_
      case hp45 => (intro w hSw; (try dsimp only at hSw); go_simp) <;> with_reducible rfl
      simp only [Act.put, List.getElem_toArray, List.getElem_cons_zero, List.getElem_cons_succ, List.setIfInBounds_toArray, List.set_cons_zero, List.set_cons_succ]
      refine anyL_take (i := 52) (v := ?vp46) rfl (by kernel_rfl) (by kernel_rfl) (by kernel_rfl) (by kernel_rfl) (fun _ _ _ h => h) (Or.inl ⟨by rfl, ?hp46⟩) (unhide HSW _ S19) ?_
      case hp46 => (intro w hSw; (try dsimp only at hSw); go_simp) <;> with_reducible rfl
      simp only [Act.put, List.getElem_toArray, List.getElem_cons_zero, List.getElem_cons_succ, List.setIfInBounds_toArray, List.set_cons_zero, List.set_cons_succ]
      refine anyL_done (by kernel_rfl) ?_ _
      go_wp2_with fail
      go_ret
      exact ⟨rfl, S19.d⟩
    · have HC := hide (by have := unhide HIy; rw [if_neg hcx] at this; exact this)
      clear HIy
      refine regionL (S := fun w' => (w'.cell? ⟨gW, 0, none⟩ = some (.int .i64 xb) ∧ w'.cell? ⟨gW, 1, none⟩ = some (.int .i64 xr) ∧ w'.cell? ⟨gW, 2, none⟩ = some (.int .i64 xu) ∧ w'.cell? ⟨gW, 3, none⟩ = some (.int .i64 xe) ∧ w'.cell? ⟨gW, 4, none⟩ = some (.string xh) ∧ w'.cell? ⟨gW, 5, none⟩ = some (.string xt)) ∧ (w'.cell? ⟨gZ, 0, none⟩ = some (.int .i64 zb) ∧ w'.cell? ⟨gZ, 1, none⟩ = some (.int .i64 zr) ∧ w'.cell? ⟨gZ, 2, none⟩ = some (.int .i64 zu) ∧ w'.cell? ⟨gZ, 3, none⟩ = some (.int .i64 ze) ∧ w'.cell? ⟨gZ, 4, none⟩ = some (.string zh) ∧ w'.cell? ⟨gZ, 5, none⟩ = some (.string zt))) (fun _ => false) (by kernel_rfl) ?_
      generalize w12.drew = w13 at *
      refine anyL_take (i := 0) (v := ?vn47) rfl (by kernel_rfl) (by kernel_rfl) (by kernel_rfl) (by kernel_rfl) (fun _ _ _ h => h) (Or.inl ⟨by rfl, ?hn47⟩) (unhide HSW _ S13) ?_
      case hn47 => (intro w hSw; (try dsimp only at hSw); go_simp) <;> with_reducible rfl
      simp only [Act.put, List.getElem_toArray, List.getElem_cons_zero, List.setIfInBounds_toArray, List.set_cons_zero, List.set_cons_succ]
      refine anyL_take (i := 1) (v := ?vn48) rfl (by kernel_rfl) (by kernel_rfl) (by kernel_rfl) (by kernel_rfl) (fun _ _ _ h => h) (Or.inl ⟨by rfl, ?hn48⟩) (unhide HSW _ S13) ?_
      case hn48 => (intro w hSw; (try dsimp only at hSw); go_simp) <;> with_reducible rfl
      simp only [Act.put, List.getElem_toArray, List.getElem_cons_zero, List.getElem_cons_succ, List.setIfInBounds_toArray, List.set_cons_zero, List.set_cons_succ]
      refine anyL_take (i := 2) (v := ?vn49) rfl (by kernel_rfl) (by kernel_rfl) (by kernel_rfl) (by kernel_rfl) (fun _ _ _ h => h) (Or.inl ⟨by rfl, ?hn49⟩) (unhide HSW _ S13) ?_
      case hn49 => (intro w hSw; (try dsimp only at hSw); go_simp) <;> with_reducible rfl
      simp only [Act.put, List.getElem_toArray, List.getElem_cons_zero, List.getElem_cons_succ, List.setIfInBounds_toArray, List.set_cons_zero, List.set_cons_succ]
      refine anyL_take (i := 3) (v := ?vn50) rfl (by kernel_rfl) (by kernel_rfl) (by kernel_rfl) (by kernel_rfl) (fun _ _ _ h => h) (Or.inl ⟨by rfl, ?hn50⟩) (unhide HSW _ S13) ?_
      case hn50 => (intro w hSw; (try dsimp only at hSw); go_simp) <;> with_reducible rfl
      simp only [Act.put, List.getElem_toArray, List.getElem_cons_zero, List.getElem_cons_succ, List.setIfInBounds_toArray, List.set_cons_zero, List.set_cons_succ]
      refine anyL_take (i := 4) (v := ?vn51) rfl (by kernel_rfl) (by kernel_rfl) (by kernel_rfl) (by kernel_rfl) (fun _ _ _ h => h) (Or.inl ⟨by rfl, ?hn51⟩) (unhide HSW _ S13) ?_
      case hn51 => (intro w hSw; (try dsimp only at hSw); go_simp) <;> with_reducible rfl
      simp only [Act.put, List.getElem_toArray, List.getElem_cons_zero, List.getElem_cons_succ, List.setIfInBounds_toArray, List.set_cons_zero, List.set_cons_succ]
      refine anyL_take (i := 5) (v := ?vn52) rfl (by kernel_rfl) (by kernel_rfl) (by kernel_rfl) (by kernel_rfl) (fun _ _ _ h => h) (Or.inl ⟨by rfl, ?hn52⟩) (unhide HSW _ S13) ?_
      case hn52 => (intro w hSw; (try dsimp only at hSw); go_simp) <;> with_reducible rfl
      simp only [Act.put, List.getElem_toArray, List.getElem_cons_zero, List.getElem_cons_succ, List.setIfInBounds_toArray, List.set_cons_zero, List.set_cons_succ]
      refine anyL_take (i := 6) (v := ?vn53) rfl (by kernel_rfl) (by kernel_rfl) (by kernel_rfl) (by kernel_rfl) (fun _ _ _ h => h) (Or.inl ⟨by rfl, ?hn53⟩) (unhide HSW _ S13) ?_
      case hn53 => (intro w hSw; (try dsimp only at hSw); go_simp) <;> with_reducible rfl
      simp only [Act.put, List.getElem_toArray, List.getElem_cons_zero, List.getElem_cons_succ, List.setIfInBounds_toArray, List.set_cons_zero, List.set_cons_succ]
      refine anyL_take (i := 7) (v := ?vn54) rfl (by kernel_rfl) (by kernel_rfl) (by kernel_rfl) (by kernel_rfl) (fun _ _ _ h => h) (Or.inl ⟨by rfl, ?hn54⟩) (unhide HSW _ S13) ?_
      case hn54 => (intro w hSw; (try dsimp only at hSw); go_simp) <;> with_reducible rfl
      simp only [Act.put, List.getElem_toArray, List.getElem_cons_zero, List.getElem_cons_succ, List.setIfInBounds_toArray, List.set_cons_zero, List.set_cons_succ]
      refine anyL_take (i := 8) (v := ?vn55) rfl (by kernel_rfl) (by kernel_rfl) (by kernel_rfl) (by kernel_rfl) (fun _ _ _ h => h) (Or.inl ⟨by rfl, ?hn55⟩) (unhide HSW _ S13) ?_
      case hn55 => (intro w hSw; (try dsimp only at hSw); go_simp) <;> with_reducible rfl
      simp only [Act.put, List.getElem_toArray, List.getElem_cons_zero, List.getElem_cons_succ, List.setIfInBounds_toArray, List.set_cons_zero, List.set_cons_succ]
      refine anyL_take (i := 9) (v := ?vn56) rfl (by kernel_rfl) (by kernel_rfl) (by kernel_rfl) (by kernel_rfl) (fun _ _ _ h => h) (Or.inl ⟨by rfl, ?hn56⟩) (unhide HSW _ S13) ?_
      case hn56 => (intro w hSw; (try dsimp only at hSw); go_simp) <;> with_reducible rfl
      simp only [Act.put, List.getElem_toArray, List.getElem_cons_zero, List.getElem_cons_succ, List.setIfInBounds_toArray, List.set_cons_zero, List.set_cons_succ]
      refine anyL_take (i := 10) (v := ?vn57) rfl (by kernel_rfl) (by kernel_rfl) (by kernel_rfl) (by kernel_rfl) (fun _ _ _ h => h) (Or.inl ⟨by rfl, ?hn57⟩) (unhide HSW _ S13) ?_
      case hn57 => (intro w hSw; (try dsimp only at hSw); go_simp) <;> with_reducible rfl
      simp only [Act.put, List.getElem_toArray, List.getElem_cons_zero, List.getElem_cons_succ, List.setIfInBounds_toArray, List.set_cons_zero, List.set_cons_succ]
      refine anyL_take (i := 11) (v := ?vn58) rfl (by kernel_rfl) (by kernel_rfl) (by kernel_rfl) (by kernel_rfl) (fun _ _ _ h => h) (Or.inl ⟨by rfl, ?hn58⟩) (unhide HSW _ S13) ?_
      case hn58 => (intro w hSw; (try dsimp only at hSw); go_simp) <;> with_reducible rfl
      simp only [Act.put, List.getElem_toArray, List.getElem_cons_zero, List.getElem_cons_succ, List.setIfInBounds_toArray, List.set_cons_zero, List.set_cons_succ]
      refine anyL_take (i := 12) (v := ?vn59) rfl (by kernel_rfl) (by kernel_rfl) (by kernel_rfl) (by kernel_rfl) (fun _ _ _ h => h) (Or.inl ⟨by rfl, ?hn59⟩) (unhide HSW _ S13) ?_
      case hn59 => (intro w hSw; (try dsimp only at hSw); go_simp) <;> with_reducible rfl
      simp only [Act.put, List.getElem_toArray, List.getElem_cons_zero, List.getElem_cons_succ, List.setIfInBounds_toArray, List.set_cons_zero, List.set_cons_succ]
      refine anyL_take (i := 13) (v := ?vn60) rfl (by kernel_rfl) (by kernel_rfl) (by kernel_rfl) (by kernel_rfl) (fun _ _ _ h => h) (Or.inl ⟨by rfl, ?hn60⟩) (unhide HSW _ S13) ?_
      case hn60 => (intro w hSw; (try dsimp only at hSw); go_simp) <;> with_reducible rfl
      simp only [Act.put, List.getElem_toArray, List.getElem_cons_zero, List.getElem_cons_succ, List.setIfInBounds_toArray, List.set_cons_zero, List.set_cons_succ]
      refine anyL_take (i := 14) (v := ?vn61) rfl (by kernel_rfl) (by kernel_rfl) (by kernel_rfl) (by kernel_rfl) (fun _ _ _ h => h) (Or.inl ⟨by rfl, ?hn61⟩) (unhide HSW _ S13) ?_
      case hn61 => (intro w hSw; (try dsimp only at hSw); go_simp) <;> with_reducible rfl
      simp only [Act.put, List.getElem_toArray, List.getElem_cons_zero, List.getElem_cons_succ, List.setIfInBounds_toArray, List.set_cons_zero, List.set_cons_succ]
      refine anyL_take (i := 15) (v := ?vn62) rfl (by kernel_rfl) (by kernel_rfl) (by kernel_rfl) (by kernel_rfl) (fun _ _ _ h => h) (Or.inl ⟨by rfl, ?hn62⟩) (unhide HSW _ S13) ?_
      case hn62 => (intro w hSw; (try dsimp only at hSw); go_simp) <;> with_reducible rfl
      simp only [Act.put, List.getElem_toArray, List.getElem_cons_zero, List.getElem_cons_succ, List.setIfInBounds_toArray, List.set_cons_zero, List.set_cons_succ]
      refine anyL_take (i := 16) (v := ?vn63) rfl (by kernel_rfl) (by kernel_rfl) (by kernel_rfl) (by kernel_rfl) (fun _ _ _ h => h) (Or.inl ⟨by rfl, ?hn63⟩) (unhide HSW _ S13) ?_
      case hn63 => (intro w hSw; (try dsimp only at hSw); go_simp) <;> with_reducible rfl
      simp only [Act.put, List.getElem_toArray, List.getElem_cons_zero, List.getElem_cons_succ, List.setIfInBounds_toArray, List.set_cons_zero, List.set_cons_succ]
      refine anyL_take (i := 17) (v := ?vn64) rfl (by kernel_rfl) (by kernel_rfl) (by kernel_rfl) (by kernel_rfl) (fun _ _ _ h => h) (Or.inl ⟨by rfl, ?hn64⟩) (unhide HSW _ S13) ?_
      case hn64 => (intro w hSw; (try dsimp only at hSw); go_simp) <;> with_reducible rfl
      simp only [Act.put, List.getElem_toArray, List.getElem_cons_zero, List.getElem_cons_succ, List.setIfInBounds_toArray, List.set_cons_zero, List.set_cons_succ]
      refine anyL_take (i := 18) (v := ?vn65) rfl (by kernel_rfl) (by kernel_rfl) (by kernel_rfl) (by kernel_rfl) (fun _ _ _ h => h) (Or.inl ⟨by rfl, ?hn65⟩) (unhide HSW _ S13) ?_
      case hn65 => (intro w hSw; (try dsimp only at hSw); go_simp) <;> with_reducible rfl
      simp only [Act.put, List.getElem_toArray, List.getElem_cons_zero, List.getElem_cons_succ, List.setIfInBounds_toArray, List.set_cons_zero, List.set_cons_succ]
      refine anyL_ready (rs := [19]) (by kernel_rfl) (by simp) ?_
      refine AllL.cons rfl (fun K hK => ?_) AllL.nil
      go_simp
      refine (unhide HOf _ S13.d).mono ?_
      rintro e w14 ⟨rfl, x14⟩
      have S14 := S13.on x14
      refine unhide hK _ _ (fun _ => unhide HSW _ S14) ?_
      clear hK K x14 S13
      refine anyL_take (i := 20) (v := ?vn66) rfl (by kernel_rfl) (by kernel_rfl) (by kernel_rfl) (by kernel_rfl) (fun _ _ _ h => h) (Or.inl ⟨by rfl, ?hn66⟩) (unhide HSW _ S14) ?_
      case hn66 => (intro w hSw; (try dsimp only at hSw); go_simp) <;> with_reducible rfl
      simp only [Act.put, List.getElem_toArray, List.getElem_cons_zero, List.getElem_cons_succ, List.setIfInBounds_toArray, List.set_cons_zero, List.set_cons_succ]
      refine anyL_take (i := 21) (v := ?vn67) rfl (by kernel_rfl) (by kernel_rfl) (by kernel_rfl) (by kernel_rfl) (fun _ _ _ h => h) (Or.inl ⟨by rfl, ?hn67⟩) (unhide HSW _ S14) ?_
      case hn67 => (intro w hSw; (try dsimp only at hSw); go_simp) <;> with_reducible rfl
      simp only [Act.put, List.getElem_toArray, List.getElem_cons_zero, List.getElem_cons_succ, List.setIfInBounds_toArray, List.set_cons_zero, List.set_cons_succ]
      refine anyL_take (i := 22) (v := ?vn68) rfl (by kernel_rfl) (by kernel_rfl) (by kernel_rfl) (by kernel_rfl) (fun _ _ _ h => h) (Or.inl ⟨by rfl, ?hn68⟩) (unhide HSW _ S14) ?_
      case hn68 => (intro w hSw; (try dsimp only at hSw); go_simp) <;> with_reducible rfl
      simp only [Act.put, List.getElem_toArray, List.getElem_cons_zero, List.getElem_cons_succ, List.setIfInBounds_toArray, List.set_cons_zero, List.set_cons_succ]
      refine anyL_take (i := 23) (v := ?vn69) rfl (by kernel_rfl) (by kernel_rfl) (by kernel_rfl) (by kernel_rfl) (fun _ _ _ h => h) (Or.inl ⟨by rfl, ?hn69⟩) (unhide HSW _ S14) ?_
      case hn69 => (intro w hSw; (try dsimp only at hSw); go_simp) <;> with_reducible rfl
      simp only [Act.put, List.getElem_toArray, List.getElem_cons_zero, List.getElem_cons_succ, List.setIfInBounds_toArray, List.set_cons_zero, List.set_cons_succ]
      refine anyL_take (i := 24) (v := ?vn70) rfl (by kernel_rfl) (by kernel_rfl) (by kernel_rfl) (by kernel_rfl) (fun _ _ _ h => h) (Or.inl ⟨by rfl, ?hn70⟩) (unhide HSW _ S14) ?_
      case hn70 => (intro w hSw; (try dsimp only at hSw); go_simp) <;> with_reducible rfl
      simp only [Act.put, List.getElem_toArray, List.getElem_cons_zero, List.getElem_cons_succ, List.setIfInBounds_toArray, List.set_cons_zero, List.set_cons_succ]
      refine anyL_take (i := 25) (v := ?vn71) rfl (by kernel_rfl) (by kernel_rfl) (by kernel_rfl) (by kernel_rfl) (fun _ _ _ h => h) (Or.inl ⟨by rfl, ?hn71⟩) (unhide HSW _ S14) ?_
      case hn71 => (intro w hSw; (try dsimp only at hSw); go_simp) <;> with_reducible rfl
      simp only [Act.put, List.getElem_toArray, List.getElem_cons_zero, List.getElem_cons_succ, List.setIfInBounds_toArray, List.set_cons_zero, List.set_cons_succ]
      refine anyL_take (i := 26) (v := ?vn72) rfl (by kernel_rfl) (by kernel_rfl) (by kernel_rfl) (by kernel_rfl) (fun _ _ _ h => h) (Or.inl ⟨by rfl, ?hn72⟩) (unhide HSW _ S14) ?_
      case hn72 => (intro w hSw; (try dsimp only at hSw); go_simp) <;> with_reducible rfl
      simp only [Act.put, List.getElem_toArray, List.getElem_cons_zero, List.getElem_cons_succ, List.setIfInBounds_toArray, List.set_cons_zero, List.set_cons_succ]
      refine anyL_ready (rs := [27]) (by kernel_rfl) (by simp) ?_
      refine AllL.cons rfl (fun K hK => ?_) AllL.nil
      go_simp
      refine (unhide HIx gx _ (S14.k (gx, X1) (by simp)) S14.d).mono ?_
      rintro e w15 ⟨rfl, x15⟩
      have S15 := S14.on x15
      refine unhide hK _ _ (fun _ => unhide HSW _ S15) ?_
      clear hK K x15 S14
      refine anyL_take (i := 28) (v := ?vn73) rfl (by kernel_rfl) (by kernel_rfl) (by kernel_rfl) (by kernel_rfl) (fun _ _ _ h => h) (Or.inl ⟨by rfl, ?hn73⟩) (unhide HSW _ S15) ?_
      case hn73 => (intro w hSw; (try dsimp only at hSw); go_simp) <;> with_reducible rfl
      simp only [Act.put, List.getElem_toArray, List.getElem_cons_zero, List.getElem_cons_succ, List.setIfInBounds_toArray, List.set_cons_zero, List.set_cons_succ]
      refine anyL_take (i := 29) (v := ?vn74) rfl (by kernel_rfl) (by kernel_rfl) (by kernel_rfl) (by kernel_rfl) (fun _ _ _ h => h) (Or.inl ⟨by rfl, ?hn74⟩) (unhide HSW _ S15) ?_
      case hn74 => (intro w hSw; (try dsimp only at hSw); go_simp) <;> with_reducible rfl
      simp only [Act.put, List.getElem_toArray, List.getElem_cons_zero, List.getElem_cons_succ, List.setIfInBounds_toArray, List.set_cons_zero, List.set_cons_succ]
      refine anyL_take (i := 30) (v := ?vn75) rfl (by kernel_rfl) (by kernel_rfl) (by kernel_rfl) (by kernel_rfl) (fun _ _ _ h => h) (Or.inl ⟨by rfl, ?hn75⟩) (unhide HSW _ S15) ?_
      case hn75 => (intro w hSw; (try dsimp only at hSw); go_simp) <;> with_reducible rfl
      simp only [Act.put, List.getElem_toArray, List.getElem_cons_zero, List.getElem_cons_succ, List.setIfInBounds_toArray, List.set_cons_zero, List.set_cons_succ]
      refine anyL_take (i := 31) (v := ?vn76) rfl (by kernel_rfl) (by kernel_rfl) (by kernel_rfl) (by kernel_rfl) (fun _ _ _ h => h) (Or.inl ⟨by rfl, ?hn76⟩) (unhide HSW _ S15) ?_
      case hn76 => (intro w hSw; (try dsimp only at hSw); go_simp) <;> with_reducible rfl
      simp only [Act.put, List.getElem_toArray, List.getElem_cons_zero, List.getElem_cons_succ, List.setIfInBounds_toArray, List.set_cons_zero, List.set_cons_succ]
      refine anyL_take (i := 32) (v := ?vn77) rfl (by kernel_rfl) (by kernel_rfl) (by kernel_rfl) (by kernel_rfl) (fun _ _ _ h => h) (Or.inl ⟨by rfl, ?hn77⟩) (unhide HSW _ S15) ?_
      case hn77 => (intro w hSw; (try dsimp only at hSw); go_simp) <;> with_reducible rfl
      simp only [Act.put, List.getElem_toArray, List.getElem_cons_zero, List.getElem_cons_succ, List.setIfInBounds_toArray, List.set_cons_zero, List.set_cons_succ]
      refine anyL_take (i := 33) (v := ?vn78) rfl (by kernel_rfl) (by kernel_rfl) (by kernel_rfl) (by kernel_rfl) (fun _ _ _ h => h) (Or.inl ⟨by rfl, ?hn78⟩) (unhide HSW _ S15) ?_
      case hn78 => (intro w hSw; (try dsimp only at hSw); go_simp) <;> with_reducible rfl
      simp only [Act.put, List.getElem_toArray, List.getElem_cons_zero, List.getElem_cons_succ, List.setIfInBounds_toArray, List.set_cons_zero, List.set_cons_succ]
      refine anyL_ready (rs := [34]) (by kernel_rfl) (by simp) ?_
      refine AllL.cons rfl (fun K hK => ?_) AllL.nil
      go_simp
      refine (unhide HC gy _ (S15.k (gy, X2) (by simp)) S15.d).mono ?_
      rintro e w16 ⟨rfl, x16⟩
      have S16 := S15.on x16
      refine unhide hK _ _ (fun _ => unhide HSW _ S16) ?_
      clear hK K x16 S15
      refine anyL_take (i := 35) (v := ?vn79) rfl (by kernel_rfl) (by kernel_rfl) (by kernel_rfl) (by kernel_rfl) (fun _ _ _ h => h) (Or.inl ⟨by rfl, ?hn79⟩) (unhide HSW _ S16) ?_
      case hn79 => (intro w hSw; (try dsimp only at hSw); go_simp) <;> with_reducible rfl
      simp only [Act.put, List.getElem_toArray, List.getElem_cons_zero, List.getElem_cons_succ, List.setIfInBounds_toArray, List.set_cons_zero, List.set_cons_succ]
      refine anyL_take (i := 36) (v := ?vn80) rfl (by kernel_rfl) (by kernel_rfl) (by kernel_rfl) (by kernel_rfl) (fun _ _ _ h => h) (Or.inl ⟨by rfl, ?hn80⟩) (unhide HSW _ S16) ?_
      case hn80 => (intro w hSw; (try dsimp only at hSw); go_simp) <;> with_reducible rfl
      simp only [Act.put, List.getElem_toArray, List.getElem_cons_zero, List.getElem_cons_succ, List.setIfInBounds_toArray, List.set_cons_zero, List.set_cons_succ]
      refine anyL_take (i := 37) (v := ?vn81) rfl (by kernel_rfl) (by kernel_rfl) (by kernel_rfl) (by kernel_rfl) (fun _ _ _ h => h) (Or.inl ⟨by rfl, ?hn81⟩) (unhide HSW _ S16) ?_
      case hn81 => (intro w hSw; (try dsimp only at hSw); go_simp) <;> with_reducible rfl
      simp only [Act.put, List.getElem_toArray, List.getElem_cons_zero, List.getElem_cons_succ, List.setIfInBounds_toArray, List.set_cons_zero, List.set_cons_succ]
      refine anyL_take (i := 38) (v := ?vn82) rfl (by kernel_rfl) (by kernel_rfl) (by kernel_rfl) (by kernel_rfl) (fun _ _ _ h => h) (Or.inl ⟨by rfl, ?hn82⟩) (unhide HSW _ S16) ?_
      case hn82 => (intro w hSw; (try dsimp only at hSw); go_simp) <;> with_reducible rfl
      simp only [Act.put, List.getElem_toArray, List.getElem_cons_zero, List.getElem_cons_succ, List.setIfInBounds_toArray, List.set_cons_zero, List.set_cons_succ]
      refine anyL_ready (rs := [39]) (by kernel_rfl) (by simp) ?_
      refine AllL.cons rfl (fun K hK => ?_) AllL.nil
      go_simp
      refine (unhide HIs2 gb _ (S16.k (gb, l) (by simp)) S16.d).mono ?_
      rintro e w17 ⟨rfl, x17⟩
      have S17 := S16.on x17
      refine unhide hK _ _ (fun _ => unhide HSW _ S17) ?_
      clear hK K x17 S16
      refine anyL_take (i := 40) (v := ?vn83) rfl (by kernel_rfl) (by kernel_rfl) (by kernel_rfl) (by kernel_rfl) (fun _ _ _ h => h) (Or.inl ⟨by rfl, ?hn83⟩) (unhide HSW _ S17) ?_
      case hn83 => (intro w hSw; (try dsimp only at hSw); go_simp) <;> with_reducible rfl
      simp only [Act.put, List.getElem_toArray, List.getElem_cons_zero, List.getElem_cons_succ, List.setIfInBounds_toArray, List.set_cons_zero, List.set_cons_succ]
      refine anyL_take (i := 41) (v := ?vn84) rfl (by kernel_rfl) (by kernel_rfl) (by kernel_rfl) (by kernel_rfl) (fun _ _ _ h => h) (Or.inl ⟨by rfl, ?hn84⟩) (unhide HSW _ S17) ?_
      case hn84 => (intro w hSw; (try dsimp only at hSw); go_simp) <;> with_reducible rfl
      simp only [Act.put, List.getElem_toArray, List.getElem_cons_zero, List.getElem_cons_succ, List.setIfInBounds_toArray, List.set_cons_zero, List.set_cons_succ]
      refine anyL_take (i := 42) (v := ?vn85) rfl (by kernel_rfl) (by kernel_rfl) (by kernel_rfl) (by kernel_rfl) (fun _ _ _ h => h) (Or.inl ⟨by rfl, ?hn85⟩) (unhide HSW _ S17) ?_
      case hn85 => (intro w hSw; (try dsimp only at hSw); go_simp) <;> with_reducible rfl
      simp only [Act.put, List.getElem_toArray, List.getElem_cons_zero, List.getElem_cons_succ, List.setIfInBounds_toArray, List.set_cons_zero, List.set_cons_succ]
      refine anyL_take (i := 43) (v := ?vn86) rfl (by kernel_rfl) (by kernel_rfl) (by kernel_rfl) (by kernel_rfl) (fun _ _ _ h => h) (Or.inl ⟨by rfl, ?hn86⟩) (unhide HSW _ S17) ?_
      case hn86 => (intro w hSw; (try dsimp only at hSw); go_simp) <;> with_reducible rfl
      simp only [Act.put, List.getElem_toArray, List.getElem_cons_zero, List.getElem_cons_succ, List.setIfInBounds_toArray, List.set_cons_zero, List.set_cons_succ]
      refine anyL_ready (rs := [44]) (by kernel_rfl) (by simp) ?_
      refine AllL.cons rfl (fun K hK => ?_) AllL.nil
      go_simp
      refine (unhide HWl _ (S17.k (gl, l) (by simp))).mono ?_
      rintro e w18 ⟨rfl, x18⟩
      have S18 := S17.on x18
      refine unhide hK _ _ (fun _ => unhide HSW _ S18) ?_
      clear hK K x18 S17
      refine anyL_take (i := 45) (v := ?vn87) rfl (by kernel_rfl) (by kernel_rfl) (by kernel_rfl) (by kernel_rfl) (fun _ _ _ h => h) (Or.inl ⟨by rfl, ?hn87⟩) (unhide HSW _ S18) ?_
      case hn87 => (intro w hSw; (try dsimp only at hSw); go_simp) <;> with_reducible rfl
      simp only [Act.put, List.getElem_toArray, List.getElem_cons_zero, List.getElem_cons_succ, List.setIfInBounds_toArray, List.set_cons_zero, List.set_cons_succ]
      refine anyL_take (i := 46) (v := ?vn88) rfl (by kernel_rfl) (by kernel_rfl) (by kernel_rfl) (by kernel_rfl) (fun _ _ _ h => h) (Or.inl ⟨by rfl, ?hn88⟩) (unhide HSW _ S18) ?_
      case hn88 => (intro w hSw; (try dsimp only at hSw); go_simp) <;> with_reducible rfl
      simp only [Act.put, List.getElem_toArray, List.getElem_cons_zero, List.getElem_cons_succ, List.setIfInBounds_toArray, List.set_cons_zero, List.set_cons_succ]
      refine anyL_take (i := 47) (v := ?vn89) rfl (by kernel_rfl) (by kernel_rfl) (by kernel_rfl) (by kernel_rfl) (fun _ _ _ h => h) (Or.inl ⟨by rfl, ?hn89⟩) (unhide HSW _ S18) ?_
      case hn89 => (intro w hSw; (try dsimp only at hSw); go_simp) <;> with_reducible rfl
      simp only [Act.put, List.getElem_toArray, List.getElem_cons_zero, List.getElem_cons_succ, List.setIfInBounds_toArray, List.set_cons_zero, List.set_cons_succ]
      refine anyL_take (i := 48) (v := ?vn90) rfl (by kernel_rfl) (by kernel_rfl) (by kernel_rfl) (by kernel_rfl) (fun _ _ _ h => h) (Or.inl ⟨by rfl, ?hn90⟩) (unhide HSW _ S18) ?_
      case hn90 => (intro w hSw; (try dsimp only at hSw); go_simp) <;> with_reducible rfl
      simp only [Act.put, List.getElem_toArray, List.getElem_cons_zero, List.getElem_cons_succ, List.setIfInBounds_toArray, List.set_cons_zero, List.set_cons_succ]
      refine anyL_take (i := 49) (v := ?vn91) rfl (by kernel_rfl) (by kernel_rfl) (by kernel_rfl) (by kernel_rfl) (fun _ _ _ h => h) (Or.inl ⟨by rfl, ?hn91⟩) (unhide HSW _ S18) ?_
      case hn91 => (intro w hSw; (try dsimp only at hSw); go_simp) <;> with_reducible rfl
      simp only [Act.put, List.getElem_toArray, List.getElem_cons_zero, List.getElem_cons_succ, List.setIfInBounds_toArray, List.set_cons_zero, List.set_cons_succ]
      refine anyL_ready (rs := [50]) (by kernel_rfl) (by simp) ?_
      refine AllL.cons rfl (fun K hK => ?_) AllL.nil
      go_simp
      refine (unhide HIs _ (S18.k (gl, l) (by simp)) S18.d).mono ?_
      rintro e w19 ⟨rfl, x19⟩
      have S19 := S18.on x19
      refine unhide hK _ _ (fun _ => unhide HSW _ S19) ?_
      clear hK K x19 S18
      refine anyL_take (i := 51) (v := ?vn92) rfl (by kernel_rfl) (by kernel_rfl) (by kernel_rfl) (by kernel_rfl) (fun _ _ _ h => h) (Or.inl ⟨by rfl, ?hn92⟩) (unhide HSW _ S19) ?_
      case hn92 => (intro w hSw; (try dsimp only at hSw); go_simp) <;> with_reducible rfl
      simp only [Act.put, List.getElem_toArray, List.getElem_cons_zero, List.getElem_cons_succ, List.setIfInBounds_toArray, List.set_cons_zero, List.set_cons_succ]
      refine anyL_take (i := 52) (v := ?vn93) rfl (by kernel_rfl) (by kernel_rfl) (by kernel_rfl) (by kernel_rfl) (fun _ _ _ h => h) (Or.inl ⟨by rfl, ?hn93⟩) (unhide HSW _ S19) ?_
      case hn93 => (intro w hSw; (try dsimp only at hSw); go_simp) <;> with_reducible rfl
      simp only [Act.put, List.getElem_toArray, List.getElem_cons_zero, List.getElem_cons_succ, List.setIfInBounds_toArray, List.set_cons_zero, List.set_cons_succ]
      refine anyL_done (by kernel_rfl) ?_ _
      go_wp2_with fail
      go_ret
      exact ⟨rfl, S19.d⟩

end Go.Proofs.YtfkcphgolbfdjaaDoor
