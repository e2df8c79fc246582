/- Layer 14: passed. -/
import Derived.Test.YtjjdgfjlpkhgcaaMg24

namespace Go.Proofs.Ytjjdgfjlpkhgcaa
open Go.ChangeShapes Go.WideShapes Go.ChangeAt Go.RowKit
attribute [local go_sem] Oper.semAt_some

theorem PsM.midA {w : World} {g3 g4 g8 g9 BR : Nat} {X X' : World} {v7 : Value} {la lb out : List Dop} (h : PsM w g3 g4 g8 g9 BR X v7 la lb out) (hX : X.grownBy X' (some g3)) : X'.cell? ⟨g8, 0, none⟩ = some (.int .i64 (hdO la).k) ∧ X'.cell? ⟨g8, 1, none⟩ = some (.int .i64 (hdO la).n) ∧ X'.cell? ⟨g8, 2, none⟩ = some (.string (strOfNums (hdO la).t)) ∧ X'.frozen? ⟨g8, 0, none⟩ = false ∧ X'.frozen? ⟨g8, 1, none⟩ = false ∧ X'.frozen? ⟨g8, 2, none⟩ = false := by
  have k := h.x.same (hX.block g8 h.x.lt (fun e => h.n.1.2.1 (Option.some.inj e).symm))
  have hh : X'.heap[g8]? = _ := k
  exact ⟨k.cell 0, k.cell 1, k.cell 2, by simp [World.frozen?, hh], by simp [World.frozen?, hh], by simp [World.frozen?, hh]⟩
theorem PsM.midB {w : World} {g3 g4 g8 g9 BR : Nat} {X X' : World} {v7 : Value} {la lb out : List Dop} (h : PsM w g3 g4 g8 g9 BR X v7 la lb out) (hX : X.grownBy X' (some g4)) : X'.cell? ⟨g9, 0, none⟩ = some (.int .i64 (hdO lb).k) ∧ X'.cell? ⟨g9, 1, none⟩ = some (.int .i64 (hdO lb).n) ∧ X'.cell? ⟨g9, 2, none⟩ = some (.string (strOfNums (hdO lb).t)) ∧ X'.frozen? ⟨g9, 0, none⟩ = false ∧ X'.frozen? ⟨g9, 1, none⟩ = false ∧ X'.frozen? ⟨g9, 2, none⟩ = false := by
  have k := h.y.same (hX.block g9 h.y.lt (fun e => h.n.2.1.2.1 (Option.some.inj e).symm))
  have hh : X'.heap[g9]? = _ := k
  exact ⟨k.cell 0, k.cell 1, k.cell 2, by simp [World.frozen?, hh], by simp [World.frozen?, hh], by simp [World.frozen?, hh]⟩
set_option maxRecDepth 100000 in
set_option maxHeartbeats 8000000 in
theorem passed_at (a : Option Addr) (c : Nat) (d : List Dop) (a' : Option Addr) (c' : Nat) (e : List Dop) (f : Bool) (w : World) (h : IsO w a d) (h' : IsO w a' e) (hc : d.length ≤ c) (hc' : e.length ≤ c') (hv : valB d = true) (hv' : valB e = true) (hf : frD d = frD e) :
    Calls Try.prog 69 #[.slice a d.length c, .slice a' e.length c', .bool f] w fun y w' => ∃ v out, y = .returned v ∧ w'.ownsRow w.heap.size 34 3 v out.length (opsV out) ∧ (dA out = ovA f (dA d) (dA e) ∧ (∀ o ∈ out, (o.k = 1 ∨ o.k = 2 ∨ o.k = 3) ∧ 0 ≤ o.n) ∧ out.length ≤ (dA d).length + (dA e).length) ∧ Below w.heap.size w w' := by
  obtain ⟨C, hC⟩ : ∃ C, C = ovA f (dA d) (dA e) := ⟨_, rfl⟩
  have hOd : OkO d := fun o ho => ⟨(val_rdK hv).p o ho, (val_rdK hv).s o ho⟩
  have hOe : OkO e := fun o ho => ⟨(val_rdK hv').p o ho, (val_rdK hv').s o ho⟩
  have HK0 : Hid (PsK f C d e []) := hide ⟨by rw [hC]; rfl, by rw [(frA_dA (valB_k hv)).1, (frA_dA (valB_k hv')).1, hf], hOd, hOe, fun o ho => by simp at ho⟩
  rw [← hC]
  obtain ⟨M, hM⟩ : ∃ M, M = (dA d).length + (dA e).length := ⟨_, rfl⟩
  have HMB : Hid (M ≤ 1073741824) := hide (by
    rw [hM]
    have h1 := dA_len (valB_k hv)
    have h2 := dA_len (valB_k hv')
    have h3 := valB_nn hv
    have h4 := valB_nn hv'
    omega)
  rw [← hM]
  have HMM := hide hM
  have b1 := (Below.refl w.heap.size w).alloc (Nat.le_refl _) (.cells #[.slice a d.length c] 24)
  have z1 : (w.alloc (.cells #[.slice a d.length c] 24)).heap.size = w.heap.size + 1 := World.size_alloc ..
  have b2 := b1.alloc b1.size (.cells #[.slice a' e.length c'] 24)
  have k3 : IsLs w ((w.alloc (.cells #[.slice a d.length c] 24)).alloc (.cells #[.slice a' e.length c'] 24)) w.heap.size d := ⟨⟨a, c, Cls.alloc (Cls.new w _ _) _, h, hc⟩, Nat.le_refl _⟩
  have k4 : IsLs w ((w.alloc (.cells #[.slice a d.length c] 24)).alloc (.cells #[.slice a' e.length c'] 24)) (w.heap.size + 1) e := ⟨⟨a', c', by rw [← z1]; exact Cls.new _ _ _, h', hc'⟩, by omega⟩
  have HN1 := hide (next_at w _ w.heap.size d k3 b2)
  have HB2 := hide b2
  have HK4 := hide k4
  clear h h' hc hc' hv hv' hf hC hM hOd hOe b1 b2 k3 k4
  go_enter Try.func69, Try.ntmps69
  go_upto_region 2 with fail
  try rw [z1]
  clear z1
  generalize (w.alloc (.cells #[.slice a d.length c] 24)).alloc (.cells #[.slice a' e.length c'] 24) = w2 at *
  refine wp_scope_straight ?_
  go_wp2_with fail
  refine (unhide HN1).mono ?_
  rintro y w3 ⟨rfl, l3, gr3⟩
  dsimp only
  have hne : w.heap.size ≠ w.heap.size + 1 := by omega
  have l4 := (unhide HK4).same (gr3.block (w.heap.size + 1) (unhide HK4).lt (fun e => hne (Option.some.inj e).symm))
  have d3 : Below w.heap.size w w3 := (unhide HB2).grown gr3 (unhide HB2).size (fun k e => by cases e; exact Nat.le_refl _)
  have HN2 := hide (next_at w w3 (w.heap.size + 1) e l4 d3)
  have HL3 := hide l3
  have HD3 := hide d3
  clear HN1 HB2 HK4 l3 gr3 l4 d3 hne
  go_wp2_with fail
  refine (unhide HN2).mono ?_
  rintro y w4 ⟨rfl, l4, gr4⟩
  dsimp only
  have l3 := (unhide HL3).same (gr4.block w.heap.size (unhide HL3).lt (fun e => by have := Option.some.inj e; omega))
  have d4 : Below w.heap.size w w4 := (unhide HD3).grown gr4 (unhide HD3).size (fun k e => by cases e; omega)
  have HL := hide (And.intro l3 l4)
  have HD := hide d4
  clear HN2 HL3 HD3 l3 l4 gr4 d4
  unfold opG
  have z5 : (w4.alloc (.cells (opC3 (hdO d)) 34)).heap.size = w4.heap.size + 1 := World.size_alloc ..
  have HM0 : Hid (PsM w w.heap.size (w.heap.size + 1) w4.heap.size (w4.heap.size + 1) (w4.heap.size + 2) ((w4.alloc (.cells (opC3 (hdO d)) 34)).alloc (.cells (opC3 (hdO e)) 34)) (.slice none 0 0) d e []) := hide (by
    have hd := unhide HD
    obtain ⟨l3, l4⟩ := unhide HL
    have q3 := l3.lt
    have q4 := l4.lt
    refine ⟨(l3.same (Below.heap_alloc w4 _ _ q3)).same (Below.heap_alloc _ _ _ (by rw [z5]; omega)), (l4.same (Below.heap_alloc w4 _ _ q4)).same (Below.heap_alloc _ _ _ (by rw [z5]; omega)), Cls.alloc (Cls.new w4 _ _) _, by rw [← z5]; exact Cls.new _ _ _, World.ownsRow_nil _ _ _ _, by rw [World.size_alloc, z5]; omega, (hd.alloc hd.size _).alloc (hd.alloc hd.size _).size _, ⟨by omega, by omega, by omega⟩, ⟨by omega, by omega, by omega⟩, ⟨by omega, by omega, by omega, by omega⟩, by omega, by omega⟩)
  unfold opC3 at HM0
  clear z5 HL HD
  go_wp2_with fail
  refine wp_label ?_
  generalize (w4.alloc (.cells #[.int .i64 (hdO d).k, .int .i64 (hdO d).n, .string (strOfNums (hdO d).t)] 34)).alloc (.cells #[.int .i64 (hdO e).k, .int .i64 (hdO e).n, .string (strOfNums (hdO e).t)] 34) = w5 at *
  generalize w4.heap.size + 2 = BR at *
  generalize w4.heap.size + 1 = g9 at *
  generalize w4.heap.size = g8 at *
  generalize w.heap.size + 1 = g4 at *
  obtain ⟨g3, hg3⟩ : ∃ g3, g3 = w.heap.size := ⟨_, rfl⟩
  have HG3 := hide hg3
  rw [← hg3] at HM0 ⊢
  clear hg3
  go_wp2_with fail
  go_loopg [7, 10, 13, 30, 42] M (fun k v7 v10 v13 v30 v42 wr => ((∃ z, v10 = z) ∧ (∃ z, v13 = z) ∧ (∃ z, v30 = z) ∧ (∃ z, v42 = z)) ∧ Hid (∃ la lb out, PsM w g3 g4 g8 g9 BR wr v7 la lb out ∧ PsK f C la lb out ∧ k = (dA la).length + (dA lb).length ∧ out.length + k ≤ M))
  case atStart => exact ⟨⟨⟨_, rfl⟩, ⟨_, rfl⟩, ⟨_, rfl⟩, ⟨_, rfl⟩⟩, hide ⟨d, e, [], unhide HM0, unhide HK0, unhide HMM, by simp⟩⟩
  case round =>
    clear HM0 HK0
    obtain ⟨⟨⟨z1, rfl⟩, ⟨z2, rfl⟩, ⟨z3, rfl⟩, ⟨z4, rfl⟩⟩, HI⟩ := hrel
    obtain ⟨la, lb, out, hm, hk, hkk, hle⟩ := unhide HI
    clear HI
    have hol : out.length ≤ 1099511627776 := by have := unhide HMB; omega
    obtain ⟨⟨x0, x1, x2⟩, ⟨y0, y1, y2⟩, fx, fy⟩ := hm.cells
    by_cases c1 : (hdO lb).k = 2 ∧ (f = true ∨ (hdO la).k ≠ 2)
    · obtain ⟨y, rb, rfl⟩ : ∃ y rb, lb = y :: rb := by
        cases lb with
        | nil => exact absurd c1.1 (by decide)
        | cons y r => exact ⟨y, r, rfl⟩
      have hy2 : y.k = 2 := c1.1
      have HK2 := hide (hk.putB hy2 c1.2)
      have hlt := op_len1 hk.b
      obtain ⟨v', W', r2, m2⟩ := hm.push hol y.k y.n (strOfNums y.t) y rfl
      have HNX := hide (next_at w W' g4 rb m2.b m2.d)
      have HM2 := hide m2
      have HKN : Hid ((dA la).length + (dA rb).length < gk ∧ (out ++ [y]).length + ((dA la).length + (dA rb).length) ≤ M) := hide ⟨by omega, by simp; omega⟩
      simp only [hdO, List.headD_cons] at y0 y1 y2
      clear hm hk hkk hle hol hlt m2 x1 x2 fx fy
      obtain ⟨yk, yn, yt⟩ := y
      dsimp only at y0 y1 y2 r2 hy2
      subst hy2
      have R2 := hide r2
      clear r2
      generalize (hdO la).k = xk at *
      generalize strOfNums yt = st at *
      rcases c1.2 with hf | hxk
      · subst hf
        clear c1
        go_upto_region 5 with (at_builtin; refine wpList_append_known rfl _ _ 24 24 rfl _ _ rfl rfl _ _ (unhide R2) ?_; clear R2)
        go_wp2_with fail
        refine (unhide HNX).mono ?_
        rintro yy w6 ⟨rfl, l6, gr6⟩
        dsimp only
        obtain ⟨q0, q1, q2, u0, u1, u2⟩ := (unhide HM2).midB gr6
        have m3 := (unhide HM2).nextB gr6 l6
        unfold put3 at m3
        have HM3 := hide m3
        clear HNX HM2 l6 gr6 m3
        simp only [List.tail_cons] at HM3
        generalize hdO (rb) = hn at *
        obtain ⟨hnk, hnn, hnt⟩ := hn
        unfold opG
        dsimp only at q0 q1 q2 HM3 ⊢
        go_wp2_with fail
        go_roundg ((dA (la)).length + (dA (rb)).length)
        case measure => exact (unhide HKN).1
        case rel => exact ⟨⟨⟨_, rfl⟩, ⟨_, rfl⟩, ⟨_, rfl⟩, ⟨_, rfl⟩⟩, hide ⟨_, _, _, unhide HM3, unhide HK2, rfl, (unhide HKN).2⟩⟩
      · have t1 : (xk != 2) = true := by simpa using hxk
        have t1' : (xk == 2) = false := by simpa using hxk
        clear c1
        cases f with
        | true =>
          go_upto_region 5 with (at_builtin; refine wpList_append_known rfl _ _ 24 24 rfl _ _ rfl rfl _ _ (unhide R2) ?_; clear R2)
          go_wp2_with fail
          refine (unhide HNX).mono ?_
          rintro yy w6 ⟨rfl, l6, gr6⟩
          dsimp only
          obtain ⟨q0, q1, q2, u0, u1, u2⟩ := (unhide HM2).midB gr6
          have m3 := (unhide HM2).nextB gr6 l6
          unfold put3 at m3
          have HM3 := hide m3
          clear HNX HM2 l6 gr6 m3
          simp only [List.tail_cons] at HM3
          generalize hdO (rb) = hn at *
          obtain ⟨hnk, hnn, hnt⟩ := hn
          unfold opG
          dsimp only at q0 q1 q2 HM3 ⊢
          go_wp2_with fail
          go_roundg ((dA (la)).length + (dA (rb)).length)
          case measure => exact (unhide HKN).1
          case rel => exact ⟨⟨⟨_, rfl⟩, ⟨_, rfl⟩, ⟨_, rfl⟩, ⟨_, rfl⟩⟩, hide ⟨_, _, _, unhide HM3, unhide HK2, rfl, (unhide HKN).2⟩⟩
        | false =>
          go_upto_region 5 with (at_builtin; refine wpList_append_known rfl _ _ 24 24 rfl _ _ rfl rfl _ _ (unhide R2) ?_; clear R2)
          go_wp2_with fail
          refine (unhide HNX).mono ?_
          rintro yy w6 ⟨rfl, l6, gr6⟩
          dsimp only
          obtain ⟨q0, q1, q2, u0, u1, u2⟩ := (unhide HM2).midB gr6
          have m3 := (unhide HM2).nextB gr6 l6
          unfold put3 at m3
          have HM3 := hide m3
          clear HNX HM2 l6 gr6 m3
          simp only [List.tail_cons] at HM3
          generalize hdO (rb) = hn at *
          obtain ⟨hnk, hnn, hnt⟩ := hn
          unfold opG
          dsimp only at q0 q1 q2 HM3 ⊢
          go_wp2_with fail
          go_roundg ((dA (la)).length + (dA (rb)).length)
          case measure => exact (unhide HKN).1
          case rel => exact ⟨⟨⟨_, rfl⟩, ⟨_, rfl⟩, ⟨_, rfl⟩, ⟨_, rfl⟩⟩, hide ⟨_, _, _, unhide HM3, unhide HK2, rfl, (unhide HKN).2⟩⟩
    · by_cases c2 : (hdO la).k = 2
      · obtain ⟨x, ra, rfl⟩ : ∃ x ra, la = x :: ra := by
          cases la with
          | nil => exact absurd c2 (by decide)
          | cons x r => exact ⟨x, r, rfl⟩
        have hx2 : x.k = 2 := c2
        have hcc : f = false ∨ (hdO lb).k ≠ 2 := by
          cases f with
          | false => exact .inl rfl
          | true => exact .inr fun h => c1 ⟨h, .inl rfl⟩
        have HK2 := hide (hk.keepA hx2 hcc)
        have hlt := op_len1 hk.a
        obtain ⟨v', W', r2, m2⟩ := hm.push hol 1 (x.t.length : Int) ⟨#[]⟩ ⟨1, (x.t.length : Int), []⟩ rfl
        have HNX := hide (next_at w W' g3 ra m2.a m2.d)
        have HM2 := hide m2
        have HKN : Hid ((dA ra).length + (dA lb).length < gk ∧ (out ++ [(⟨1, (x.t.length : Int), []⟩ : Dop)]).length + ((dA ra).length + (dA lb).length) ≤ M) := hide ⟨by omega, by simp; omega⟩
        simp only [hdO, List.headD_cons] at x0 x1 x2
        clear hm hk hkk hle hol hlt m2 y1 y2 fx fy c1 c2
        obtain ⟨xk, xn, xt⟩ := x
        dsimp only at x0 x1 x2 r2 hx2 HKN HM2 HK2
        subst hx2
        have hsz := strOfNums_size xt
        have R2 := hide r2
        clear r2
        generalize (hdO lb).k = yk at *
        generalize strOfNums xt = st at *
        generalize xt.length = L at *
        rcases hcc with hf | hyk
        · subst hf
          by_cases hyk : yk = 2
          · subst hyk
            go_upto_region 8 with (at_builtin; refine wpList_append_known rfl _ _ 24 24 rfl _ _ rfl rfl _ _ (unhide R2) ?_; clear R2)
            go_wp2_with fail
            refine (unhide HNX).mono ?_
            rintro yy w6 ⟨rfl, l6, gr6⟩
            dsimp only
            obtain ⟨q0, q1, q2, u0, u1, u2⟩ := (unhide HM2).midA gr6
            have m3 := (unhide HM2).nextA gr6 l6
            unfold put3 at m3
            have HM3 := hide m3
            clear HNX HM2 l6 gr6 m3
            simp only [List.tail_cons] at HM3
            generalize hdO (ra) = hn at *
            obtain ⟨hnk, hnn, hnt⟩ := hn
            unfold opG
            dsimp only at q0 q1 q2 HM3 ⊢
            go_wp2_with fail
            go_roundg ((dA (ra)).length + (dA (lb)).length)
            case measure => exact (unhide HKN).1
            case rel => exact ⟨⟨⟨_, rfl⟩, ⟨_, rfl⟩, ⟨_, rfl⟩, ⟨_, rfl⟩⟩, hide ⟨_, _, _, unhide HM3, unhide HK2, rfl, (unhide HKN).2⟩⟩
          · have t1 : (yk == 2) = false := by simpa using hyk
            go_upto_region 8 with (at_builtin; refine wpList_append_known rfl _ _ 24 24 rfl _ _ rfl rfl _ _ (unhide R2) ?_; clear R2)
            go_wp2_with fail
            refine (unhide HNX).mono ?_
            rintro yy w6 ⟨rfl, l6, gr6⟩
            dsimp only
            obtain ⟨q0, q1, q2, u0, u1, u2⟩ := (unhide HM2).midA gr6
            have m3 := (unhide HM2).nextA gr6 l6
            unfold put3 at m3
            have HM3 := hide m3
            clear HNX HM2 l6 gr6 m3
            simp only [List.tail_cons] at HM3
            generalize hdO (ra) = hn at *
            obtain ⟨hnk, hnn, hnt⟩ := hn
            unfold opG
            dsimp only at q0 q1 q2 HM3 ⊢
            go_wp2_with fail
            go_roundg ((dA (ra)).length + (dA (lb)).length)
            case measure => exact (unhide HKN).1
            case rel => exact ⟨⟨⟨_, rfl⟩, ⟨_, rfl⟩, ⟨_, rfl⟩, ⟨_, rfl⟩⟩, hide ⟨_, _, _, unhide HM3, unhide HK2, rfl, (unhide HKN).2⟩⟩
        · have t1 : (yk == 2) = false := by simpa using hyk
          go_upto_region 8 with (at_builtin; refine wpList_append_known rfl _ _ 24 24 rfl _ _ rfl rfl _ _ (unhide R2) ?_; clear R2)
          go_wp2_with fail
          refine (unhide HNX).mono ?_
          rintro yy w6 ⟨rfl, l6, gr6⟩
          dsimp only
          obtain ⟨q0, q1, q2, u0, u1, u2⟩ := (unhide HM2).midA gr6
          have m3 := (unhide HM2).nextA gr6 l6
          unfold put3 at m3
          have HM3 := hide m3
          clear HNX HM2 l6 gr6 m3
          simp only [List.tail_cons] at HM3
          generalize hdO (ra) = hn at *
          obtain ⟨hnk, hnn, hnt⟩ := hn
          unfold opG
          dsimp only at q0 q1 q2 HM3 ⊢
          go_wp2_with fail
          go_roundg ((dA (ra)).length + (dA (lb)).length)
          case measure => exact (unhide HKN).1
          case rel => exact ⟨⟨⟨_, rfl⟩, ⟨_, rfl⟩, ⟨_, rfl⟩, ⟨_, rfl⟩⟩, hide ⟨_, _, _, unhide HM3, unhide HK2, rfl, (unhide HKN).2⟩⟩
      · have hyk : (hdO lb).k ≠ 2 := fun h => c1 ⟨h, .inr c2⟩
        rcases hd_kinds hk.a c2 with rfl | ⟨x, ra, rfl, hx, hxn, hxt, hxb⟩
        · obtain ⟨rfl, hfin⟩ := hk.fin hyk
          have hr := hm.o
          have HR : Hid (wr.ownsRow w.heap.size 34 3 u7 out.length (opsV out) ∧ dA out = C ∧ (∀ o ∈ out, (o.k = 1 ∨ o.k = 2 ∨ o.k = 3) ∧ 0 ≤ o.n) ∧ out.length ≤ M ∧ Below w.heap.size w wr) := hide ⟨own_lower hr (by have h1 := hm.a.z; have h2 := hm.n; omega), hfin, hk.k, by omega, hm.d⟩
          simp only [show hdO [] = opZ from rfl, opZ] at x0 x1 x2 y0 y1 y2
          clear hm hk hkk hle hol c1 c2 hyk hr hfin fx fy
          generalize strOfNums [] = st at *
          go_wp2_with fail
          simp only [Exit.noGoto]
          refine bodyPost_ret (results_tmp rfl _ _ _) rfl ⟨u7, out, rfl, (unhide HR).1, ⟨(unhide HR).2.1, (unhide HR).2.2.1, (unhide HR).2.2.2.1⟩, (unhide HR).2.2.2.2⟩
        · rcases hd_kinds hk.b hyk with rfl | ⟨y, rb, rfl, hy, hyn, hyt, hyb⟩
          · have h1 := fr_posS (r := ra) hx hxn
            have h2 := hk.q
            rw [show frA (dA ([] : List Dop)) = 0 from rfl] at h2
            omega
          obtain ⟨xk, xn, xt⟩ := x
          obtain ⟨yk, yn, yt⟩ := y
          dsimp only at hx hxn hxt hxb hy hyn hyt hyb
          subst hxt hyt
          obtain ⟨xm, rfl⟩ : ∃ xm : Nat, xn = (xm : Int) := ⟨xn.toNat, by omega⟩
          obtain ⟨ym, rfl⟩ : ∃ ym : Nat, yn = (ym : Int) := ⟨yn.toNat, by omega⟩
          obtain ⟨sv, hsv⟩ : ∃ sv, sv = min xm ym := ⟨_, rfl⟩
          have hs1 : 1 ≤ sv ∧ sv ≤ xm ∧ sv ≤ ym := by omega
          have hmin : min (xm : Int) (ym : Int) = (sv : Int) := by omega
          have hmin2 : min xm ym = sv := hsv.symm
          have hK2 := hk.both (s := sv) hx hy ⟨hs1.1, by dsimp only; omega, by dsimp only; omega⟩
          have hl1 := cut_len (s := sv) hk.a hx ⟨hs1.1, by dsimp only; omega⟩
          have hl2 := cut_len (s := sv) hk.b hy ⟨hs1.1, by dsimp only; omega⟩
          have hcA : cutL (⟨xk, (xm : Int), []⟩ : Dop) ra sv = if sv = xm then ra else ⟨xk, ((xm - sv : Nat) : Int), []⟩ :: ra := by
            unfold cutL; dsimp only; rw [Int.toNat_natCast]; split <;> first | rfl | (congr 2; omega)
          have hcB : cutL (⟨yk, (ym : Int), []⟩ : Dop) rb sv = if sv = ym then rb else ⟨yk, ((ym - sv : Nat) : Int), []⟩ :: rb := by
            unfold cutL; dsimp only; rw [Int.toNat_natCast]; split <;> first | rfl | (congr 2; omega)
          dsimp only at hK2
          rw [hcA, hcB] at hK2
          rw [hcA] at hl1
          rw [hcB] at hl2
          have HKN0 : Hid (∀ out' : List Dop, out'.length ≤ out.length + 1 → (dA (if sv = xm then ra else ⟨xk, ((xm - sv : Nat) : Int), []⟩ :: ra)).length + (dA (if sv = ym then rb else ⟨yk, ((ym - sv : Nat) : Int), []⟩ :: rb)).length < gk ∧ out'.length + ((dA (if sv = xm then ra else ⟨xk, ((xm - sv : Nat) : Int), []⟩ :: ra)).length + (dA (if sv = ym then rb else ⟨yk, ((ym - sv : Nat) : Int), []⟩ :: rb)).length) ≤ M) := hide fun out' ho => ⟨by omega, by omega⟩
          have HWX : Hid (wrap64 ((xm : Int) - (sv : Int)) = ((xm - sv : Nat) : Int) ∧ wrap64 ((ym : Int) - (sv : Int)) = ((ym - sv : Nat) : Int)) := hide ⟨by rw [wrapD _ (by omega) (by omega)]; omega, by rw [wrapD _ (by omega) (by omega)]; omega⟩
          have HSV := hide hs1
          simp only [hdO, List.headD_cons] at x0 x1 x2 y0 y1 y2
          have t1 : (yk == 2) = false := by simp only [hdO, List.headD_cons] at hyk; simpa using hyk
          have t2 : (xk == 2) = false := by simp only [hdO, List.headD_cons] at c2; simpa using c2
          have t3 : ((xm : Int) == 0) = false := by simp; omega
          have t3' : (xm == 0) = false := by simp; omega
          have HX := hide hx
          clear hcA hcB hl1 hl2 hx hy hxn hyn hxb hyb hkk hle hk hyk c1 c2 hs1 hsv
          rcases unhide HX with hx1 | hx3
          · subst hx1
            rw [if_pos rfl] at hK2
            obtain ⟨v', W', r2, m2⟩ := hm.push hol yk (sv : Int) ⟨#[]⟩ ⟨yk, (sv : Int), []⟩ rfl
            have HKN := hide (unhide HKN0 (out ++ [⟨yk, (sv : Int), []⟩]) (by simp))
            have HA := hide m2
            have HK2 := hide hK2
            have R2 := hide r2
            clear hm hol m2 hK2 r2 HKN0 HX fx fy
            generalize out ++ [(⟨yk, (sv : Int), []⟩ : Dop)] = out2 at *
            generalize strOfNums [] = st at *
            go_upto_region 11 with fail
            try rw [hmin]
            try rw [hmin2]
            go_upto_region 13 with (at_builtin; refine wpList_append_known rfl _ _ 24 24 rfl _ _ rfl rfl _ _ (unhide R2) ?_; clear R2)
            clear x0 x1 x2 y0 y1 y2 t1 t2 t3 t3' hmin hmin2
            generalize W' = X0 at *
            obtain ⟨⟨x0, x1, x2⟩, hyy, fx, hfy⟩ := (unhide HA).cells
            clear hyy hfy
            simp only [hdO, List.headD_cons] at x0 x1 x2
            have fx1 := fx 1
            have mA := (unhide HA).setA ((xm - sv : Nat) : Int)
            dsimp only at mA
            have HM1 := hide mA
            have w1 := (unhide HWX).1
            clear HA mA fx
            go_upto_region 14 with fail
            generalize X0.setCell ⟨g8, 1, none⟩ (.int .i64 ((xm - sv : Nat) : Int)) = X1 at *
            clear x0 x1 x2 fx1 w1
            obtain ⟨⟨x0, x1, x2⟩, hyy, hfx, hfy⟩ := (unhide HM1).cells
            clear hyy hfx hfy
            simp only [hdO, List.headD_cons] at x0 x1 x2
            by_cases e1 : sv = xm
            · have HZ := hide (show ((((xm - sv : Nat) : Int) == 0) = true) by simp; omega)
              rw [if_pos e1] at HK2 HKN
              have t1 := unhide HZ
              clear HZ e1
              have HNX := hide (next_at w _ g3 ra (unhide HM1).a (unhide HM1).d)
              go_wp2_with fail
              refine (unhide HNX).mono ?_
              rintro yy w6 ⟨rfl, l6, gr6⟩
              dsimp only
              obtain ⟨q0, q1, q2, u0, u1, u2⟩ := (unhide HM1).midA gr6
              have m3 := (unhide HM1).nextA gr6 l6
              unfold put3 at m3
              have HM3 := hide m3
              clear HNX HM1 l6 gr6 m3
              simp only [List.tail_cons] at HM3
              generalize hdO ra = hn at *
              obtain ⟨hnk, hnn, hnt⟩ := hn
              unfold opG
              dsimp only at q0 q1 q2 HM3 ⊢
              go_upto_region 16 with fail
              have HB := HM3
              clear HM3 q0 q1 q2 u0 u1 u2 t1 x0 x1 x2
              generalize ((w6.setCell ⟨g8, 0, none⟩ (.int .i64 hnk)).setCell ⟨g8, 1, none⟩ (.int .i64 hnn)).setCell ⟨g8, 2, none⟩ (.string (strOfNums hnt)) = X2 at *
              obtain ⟨hxx, ⟨y0, y1, y2⟩, hfx, fy⟩ := (unhide HB).cells
              clear hxx hfx
              simp only [hdO, List.headD_cons] at y0 y1 y2
              have fy1 := fy 1
              have mB := (unhide HB).setB ((ym - sv : Nat) : Int)
              dsimp only at mB
              have HC := hide mB
              have w2 := (unhide HWX).2
              clear HB mB fy HWX
              go_upto_region 17 with fail
              generalize X2.setCell ⟨g9, 1, none⟩ (.int .i64 ((ym - sv : Nat) : Int)) = X3 at *
              clear y0 y1 y2 fy1 w2
              obtain ⟨hxx, ⟨y0, y1, y2⟩, hfx, hfy⟩ := (unhide HC).cells
              clear hxx hfx hfy
              simp only [hdO, List.headD_cons] at y0 y1 y2
              by_cases e2 : sv = ym
              · have HZ := hide (show ((((ym - sv : Nat) : Int) == 0) = true) by simp; omega)
                rw [if_pos e2] at HK2 HKN
                have t2 := unhide HZ
                clear HZ e2
                have HNX := hide (next_at w _ g4 rb (unhide HC).b (unhide HC).d)
                go_wp2_with fail
                refine (unhide HNX).mono ?_
                rintro yy w6 ⟨rfl, l6, gr6⟩
                dsimp only
                obtain ⟨q0, q1, q2, u0, u1, u2⟩ := (unhide HC).midB gr6
                have m3 := (unhide HC).nextB gr6 l6
                unfold put3 at m3
                have HM3 := hide m3
                clear HNX HC l6 gr6 m3
                simp only [List.tail_cons] at HM3
                generalize hdO rb = hn at *
                obtain ⟨hnk, hnn, hnt⟩ := hn
                unfold opG
                dsimp only at q0 q1 q2 HM3 ⊢
                go_wp2_with fail
                go_roundg ((dA (ra)).length + (dA (rb)).length)
                case measure => exact (unhide HKN).1
                case rel => exact ⟨⟨⟨_, rfl⟩, ⟨_, rfl⟩, ⟨_, rfl⟩, ⟨_, rfl⟩⟩, hide ⟨_, _, _, unhide HM3, unhide HK2, rfl, (unhide HKN).2⟩⟩
              · have HZ := hide (show ((((ym - sv : Nat) : Int) == 0) = false) by have := (unhide HSV).2.2; simp; omega)
                rw [if_neg e2] at HK2 HKN
                have t2 := unhide HZ
                clear HZ e2
                go_wp2_with fail
                go_roundg ((dA (ra)).length + (dA (⟨yk, ((ym - sv : Nat) : Int), []⟩ :: rb)).length)
                case measure => exact (unhide HKN).1
                case rel => exact ⟨⟨⟨_, rfl⟩, ⟨_, rfl⟩, ⟨_, rfl⟩, ⟨_, rfl⟩⟩, hide ⟨_, _, _, unhide HC, unhide HK2, rfl, (unhide HKN).2⟩⟩
            · have HZ := hide (show ((((xm - sv : Nat) : Int) == 0) = false) by have := (unhide HSV).2.1; simp; omega)
              rw [if_neg e1] at HK2 HKN
              have t1 := unhide HZ
              clear HZ e1
              go_upto_region 16 with fail
              have HB := HM1
              clear HM1 t1 x0 x1 x2
              generalize X1 = X2 at *
              obtain ⟨hxx, ⟨y0, y1, y2⟩, hfx, fy⟩ := (unhide HB).cells
              clear hxx hfx
              simp only [hdO, List.headD_cons] at y0 y1 y2
              have fy1 := fy 1
              have mB := (unhide HB).setB ((ym - sv : Nat) : Int)
              dsimp only at mB
              have HC := hide mB
              have w2 := (unhide HWX).2
              clear HB mB fy HWX
              go_upto_region 17 with fail
              generalize X2.setCell ⟨g9, 1, none⟩ (.int .i64 ((ym - sv : Nat) : Int)) = X3 at *
              clear y0 y1 y2 fy1 w2
              obtain ⟨hxx, ⟨y0, y1, y2⟩, hfx, hfy⟩ := (unhide HC).cells
              clear hxx hfx hfy
              simp only [hdO, List.headD_cons] at y0 y1 y2
              by_cases e2 : sv = ym
              · have HZ := hide (show ((((ym - sv : Nat) : Int) == 0) = true) by simp; omega)
                rw [if_pos e2] at HK2 HKN
                have t2 := unhide HZ
                clear HZ e2
                have HNX := hide (next_at w _ g4 rb (unhide HC).b (unhide HC).d)
                go_wp2_with fail
                refine (unhide HNX).mono ?_
                rintro yy w6 ⟨rfl, l6, gr6⟩
                dsimp only
                obtain ⟨q0, q1, q2, u0, u1, u2⟩ := (unhide HC).midB gr6
                have m3 := (unhide HC).nextB gr6 l6
                unfold put3 at m3
                have HM3 := hide m3
                clear HNX HC l6 gr6 m3
                simp only [List.tail_cons] at HM3
                generalize hdO rb = hn at *
                obtain ⟨hnk, hnn, hnt⟩ := hn
                unfold opG
                dsimp only at q0 q1 q2 HM3 ⊢
                go_wp2_with fail
                go_roundg ((dA (⟨1, ((xm - sv : Nat) : Int), []⟩ :: ra)).length + (dA (rb)).length)
                case measure => exact (unhide HKN).1
                case rel => exact ⟨⟨⟨_, rfl⟩, ⟨_, rfl⟩, ⟨_, rfl⟩, ⟨_, rfl⟩⟩, hide ⟨_, _, _, unhide HM3, unhide HK2, rfl, (unhide HKN).2⟩⟩
              · have HZ := hide (show ((((ym - sv : Nat) : Int) == 0) = false) by have := (unhide HSV).2.2; simp; omega)
                rw [if_neg e2] at HK2 HKN
                have t2 := unhide HZ
                clear HZ e2
                go_wp2_with fail
                go_roundg ((dA (⟨1, ((xm - sv : Nat) : Int), []⟩ :: ra)).length + (dA (⟨yk, ((ym - sv : Nat) : Int), []⟩ :: rb)).length)
                case measure => exact (unhide HKN).1
                case rel => exact ⟨⟨⟨_, rfl⟩, ⟨_, rfl⟩, ⟨_, rfl⟩, ⟨_, rfl⟩⟩, hide ⟨_, _, _, unhide HC, unhide HK2, rfl, (unhide HKN).2⟩⟩
          · subst hx3
            rw [if_neg (show ¬ ((3 : Int) = 1) by decide)] at hK2
            have HKN := hide (unhide HKN0 out (by omega))
            have HA := hide hm
            have HK2 := hide hK2
            clear hm hol hK2 HKN0 HX fx fy
            generalize strOfNums [] = st at *
            go_upto_region 11 with fail
            try rw [hmin]
            try rw [hmin2]
            go_upto_region 13 with fail
            clear x0 x1 x2 y0 y1 y2 t1 t2 t3 t3' hmin hmin2
            generalize wr = X0 at *
            obtain ⟨⟨x0, x1, x2⟩, hyy, fx, hfy⟩ := (unhide HA).cells
            clear hyy hfy
            simp only [hdO, List.headD_cons] at x0 x1 x2
            have fx1 := fx 1
            have mA := (unhide HA).setA ((xm - sv : Nat) : Int)
            dsimp only at mA
            have HM1 := hide mA
            have w1 := (unhide HWX).1
            clear HA mA fx
            go_upto_region 14 with fail
            generalize X0.setCell ⟨g8, 1, none⟩ (.int .i64 ((xm - sv : Nat) : Int)) = X1 at *
            clear x0 x1 x2 fx1 w1
            obtain ⟨⟨x0, x1, x2⟩, hyy, hfx, hfy⟩ := (unhide HM1).cells
            clear hyy hfx hfy
            simp only [hdO, List.headD_cons] at x0 x1 x2
            by_cases e1 : sv = xm
            · have HZ := hide (show ((((xm - sv : Nat) : Int) == 0) = true) by simp; omega)
              rw [if_pos e1] at HK2 HKN
              have t1 := unhide HZ
              clear HZ e1
              have HNX := hide (next_at w _ g3 ra (unhide HM1).a (unhide HM1).d)
              go_wp2_with fail
              refine (unhide HNX).mono ?_
              rintro yy w6 ⟨rfl, l6, gr6⟩
              dsimp only
              obtain ⟨q0, q1, q2, u0, u1, u2⟩ := (unhide HM1).midA gr6
              have m3 := (unhide HM1).nextA gr6 l6
              unfold put3 at m3
              have HM3 := hide m3
              clear HNX HM1 l6 gr6 m3
              simp only [List.tail_cons] at HM3
              generalize hdO ra = hn at *
              obtain ⟨hnk, hnn, hnt⟩ := hn
              unfold opG
              dsimp only at q0 q1 q2 HM3 ⊢
              go_upto_region 16 with fail
              have HB := HM3
              clear HM3 q0 q1 q2 u0 u1 u2 t1 x0 x1 x2
              generalize ((w6.setCell ⟨g8, 0, none⟩ (.int .i64 hnk)).setCell ⟨g8, 1, none⟩ (.int .i64 hnn)).setCell ⟨g8, 2, none⟩ (.string (strOfNums hnt)) = X2 at *
              obtain ⟨hxx, ⟨y0, y1, y2⟩, hfx, fy⟩ := (unhide HB).cells
              clear hxx hfx
              simp only [hdO, List.headD_cons] at y0 y1 y2
              have fy1 := fy 1
              have mB := (unhide HB).setB ((ym - sv : Nat) : Int)
              dsimp only at mB
              have HC := hide mB
              have w2 := (unhide HWX).2
              clear HB mB fy HWX
              go_upto_region 17 with fail
              generalize X2.setCell ⟨g9, 1, none⟩ (.int .i64 ((ym - sv : Nat) : Int)) = X3 at *
              clear y0 y1 y2 fy1 w2
              obtain ⟨hxx, ⟨y0, y1, y2⟩, hfx, hfy⟩ := (unhide HC).cells
              clear hxx hfx hfy
              simp only [hdO, List.headD_cons] at y0 y1 y2
              by_cases e2 : sv = ym
              · have HZ := hide (show ((((ym - sv : Nat) : Int) == 0) = true) by simp; omega)
                rw [if_pos e2] at HK2 HKN
                have t2 := unhide HZ
                clear HZ e2
                have HNX := hide (next_at w _ g4 rb (unhide HC).b (unhide HC).d)
                go_wp2_with fail
                refine (unhide HNX).mono ?_
                rintro yy w6 ⟨rfl, l6, gr6⟩
                dsimp only
                obtain ⟨q0, q1, q2, u0, u1, u2⟩ := (unhide HC).midB gr6
                have m3 := (unhide HC).nextB gr6 l6
                unfold put3 at m3
                have HM3 := hide m3
                clear HNX HC l6 gr6 m3
                simp only [List.tail_cons] at HM3
                generalize hdO rb = hn at *
                obtain ⟨hnk, hnn, hnt⟩ := hn
                unfold opG
                dsimp only at q0 q1 q2 HM3 ⊢
                go_wp2_with fail
                go_roundg ((dA (ra)).length + (dA (rb)).length)
                case measure => exact (unhide HKN).1
                case rel => exact ⟨⟨⟨_, rfl⟩, ⟨_, rfl⟩, ⟨_, rfl⟩, ⟨_, rfl⟩⟩, hide ⟨_, _, _, unhide HM3, unhide HK2, rfl, (unhide HKN).2⟩⟩
              · have HZ := hide (show ((((ym - sv : Nat) : Int) == 0) = false) by have := (unhide HSV).2.2; simp; omega)
                rw [if_neg e2] at HK2 HKN
                have t2 := unhide HZ
                clear HZ e2
                go_wp2_with fail
                go_roundg ((dA (ra)).length + (dA (⟨yk, ((ym - sv : Nat) : Int), []⟩ :: rb)).length)
                case measure => exact (unhide HKN).1
                case rel => exact ⟨⟨⟨_, rfl⟩, ⟨_, rfl⟩, ⟨_, rfl⟩, ⟨_, rfl⟩⟩, hide ⟨_, _, _, unhide HC, unhide HK2, rfl, (unhide HKN).2⟩⟩
            · have HZ := hide (show ((((xm - sv : Nat) : Int) == 0) = false) by have := (unhide HSV).2.1; simp; omega)
              rw [if_neg e1] at HK2 HKN
              have t1 := unhide HZ
              clear HZ e1
              go_upto_region 16 with fail
              have HB := HM1
              clear HM1 t1 x0 x1 x2
              generalize X1 = X2 at *
              obtain ⟨hxx, ⟨y0, y1, y2⟩, hfx, fy⟩ := (unhide HB).cells
              clear hxx hfx
              simp only [hdO, List.headD_cons] at y0 y1 y2
              have fy1 := fy 1
              have mB := (unhide HB).setB ((ym - sv : Nat) : Int)
              dsimp only at mB
              have HC := hide mB
              have w2 := (unhide HWX).2
              clear HB mB fy HWX
              go_upto_region 17 with fail
              generalize X2.setCell ⟨g9, 1, none⟩ (.int .i64 ((ym - sv : Nat) : Int)) = X3 at *
              clear y0 y1 y2 fy1 w2
              obtain ⟨hxx, ⟨y0, y1, y2⟩, hfx, hfy⟩ := (unhide HC).cells
              clear hxx hfx hfy
              simp only [hdO, List.headD_cons] at y0 y1 y2
              by_cases e2 : sv = ym
              · have HZ := hide (show ((((ym - sv : Nat) : Int) == 0) = true) by simp; omega)
                rw [if_pos e2] at HK2 HKN
                have t2 := unhide HZ
                clear HZ e2
                have HNX := hide (next_at w _ g4 rb (unhide HC).b (unhide HC).d)
                go_wp2_with fail
                refine (unhide HNX).mono ?_
                rintro yy w6 ⟨rfl, l6, gr6⟩
                dsimp only
                obtain ⟨q0, q1, q2, u0, u1, u2⟩ := (unhide HC).midB gr6
                have m3 := (unhide HC).nextB gr6 l6
                unfold put3 at m3
                have HM3 := hide m3
                clear HNX HC l6 gr6 m3
                simp only [List.tail_cons] at HM3
                generalize hdO rb = hn at *
                obtain ⟨hnk, hnn, hnt⟩ := hn
                unfold opG
                dsimp only at q0 q1 q2 HM3 ⊢
                go_wp2_with fail
                go_roundg ((dA (⟨3, ((xm - sv : Nat) : Int), []⟩ :: ra)).length + (dA (rb)).length)
                case measure => exact (unhide HKN).1
                case rel => exact ⟨⟨⟨_, rfl⟩, ⟨_, rfl⟩, ⟨_, rfl⟩, ⟨_, rfl⟩⟩, hide ⟨_, _, _, unhide HM3, unhide HK2, rfl, (unhide HKN).2⟩⟩
              · have HZ := hide (show ((((ym - sv : Nat) : Int) == 0) = false) by have := (unhide HSV).2.2; simp; omega)
                rw [if_neg e2] at HK2 HKN
                have t2 := unhide HZ
                clear HZ e2
                go_wp2_with fail
                go_roundg ((dA (⟨3, ((xm - sv : Nat) : Int), []⟩ :: ra)).length + (dA (⟨yk, ((ym - sv : Nat) : Int), []⟩ :: rb)).length)
                case measure => exact (unhide HKN).1
                case rel => exact ⟨⟨⟨_, rfl⟩, ⟨_, rfl⟩, ⟨_, rfl⟩, ⟨_, rfl⟩⟩, hide ⟨_, _, _, unhide HC, unhide HK2, rfl, (unhide HKN).2⟩⟩

end Go.Proofs.Ytjjdgfjlpkhgcaa
