/- Layer 16, the document's: Behind. · Layer 16, the document's: Behind refused; SameHits, SameNames of lists that are alike. -/
import Derived.Test.YtifpjdodignflaaRp38
import Derived.Test.YtifpjdodignflaaRp21

section
namespace Go.Proofs.Ytifpjdodignflaa
open Go.ChangeShapes Go.WideShapes Go.ChangeAt Go.RowKit
attribute [local go_sem] Oper.semAt_some

theorem gtr_bless (a b : List UInt8) : (!(Op.bytesLess a b || a == b)) = Op.bytesLess b a := by
  cases h : Op.bytesLess a b with
  | true =>
    cases h2 : Op.bytesLess b a with
    | false => simp
    | true => have := bless_trans _ _ _ h h2; rw [bless_irrefl] at this; cases this
  | false =>
    cases h2 : Op.bytesLess b a with
    | true =>
      cases h3 : a == b with
      | false => rfl
      | true => rw [eq_of_beq h3, bless_irrefl] at h2; cases h2
    | false => rw [bless_tri a b h h2]; simp
theorem run_gtrS {P : Program} (a b : ByteArray) (ty : TypeId) (w : World) : (binOp .gtr ty (.string a) (.string b)).run P w = .ok (.bool (Op.bytesLess b.toList a.toList)) w := by
  rw [← gtr_bless]; rfl
attribute [local go_sem] run_gtrS
theorem wrap_pred {k k' : Nat} (h : k = k' + 1) (hi : k ≤ 1073741824) : IntKind.i64.wrap ((k : Int) - 1) = (k' : Int) := by
  rw [IntKind.wrap_i64]; omega
theorem row_setB {W : World} {B s n b j : Nat} {t : TypeId} {v u : Value} {xs : List Value} (h : W.ownsRow B t s v n xs) (hb : ∀ G, v.ownBlock = some G → G ≠ b) : (W.setCell ⟨b, j, none⟩ u).ownsRow B t s v n xs := rowD_on h fun G hG => Below.heap_setCell _ _ _ G (hb G hG)
theorem cls_apart {W : World} {b1 b2 : Nat} {t1 t2 : TypeId} {c1 c2 : Array Value} (h1 : Cls W b1 t1 c1) (h2 : Cls W b2 t2 c2) (ht : t1 ≠ t2) : b1 ≠ b2 := fun e => by
  unfold Cls at h1 h2
  rw [e, h2] at h1
  cases h1
  exact ht rfl
/-- the loop's box of one range is written -/
theorem BeJ.box {X wx : World} {n : Int} {va : Value} {TD : Int} {bt bX j : Nat} {q : List Rg} {G : List ByteArray} {vo vg u : Value} {cs : Array Value} (h : BeJ X wx n va TD bt q G vo vg) (kx : Cls wx bX 37 cs) (hob : ∀ G, vo.ownBlock = some G → G ≠ bX) (hX : X.heap.size ≤ bX) : BeJ X (wx.setCell ⟨bX, j, none⟩ u) n va TD bt q G vo vg :=
  ⟨h.k2.other ⟨bX, j, none⟩ u (cls_apart h.k2 kx (by decide)), h.k4.other ⟨bX, j, none⟩ u (cls_apart h.k4 kx (by decide)), h.k.other ⟨bX, j, none⟩ u (cls_apart h.k kx (by decide)), row_setB h.o hob, row_setC h.g kx (by decide), h.z, h.d.setCell (p := ⟨bX, j, none⟩) hX u, h.b⟩
set_option maxRecDepth 100000 in
set_option maxHeartbeats 8000000 in
theorem RBehR_ok (n : Int) (a : Option Addr) (c : Nat) (l : List Rg) (ad : Option Addr) (cd : Nat) (d : List Dop) (X : World) (h : IsRl X a l) (hl : l.length ≤ 1024) (ho : IsO X ad d) (hdl : d.length ≤ 4611686018427387904) (ht : ∀ o ∈ d, o.t.length ≤ 140737488355328) (hi0 : InR n l) (hv : valB d = true) (hf : (frD d : Int) = n) :
    Calls Try.prog 25 #[rsV n a l.length c, .slice ad d.length cd] X fun y X' => ∃ v vg, y = .returned (.tuple #[.agg #[.int .i64 (toD d), v], vg, .int .i64 0]) ∧ X'.ownsRow X.heap.size 37 5 v (behL d l).1.length (rgsV (behL d l).1) ∧ X'.ownsRow X.heap.size 9 1 vg (behL d l).2.length (strsV (behL d l).2) ∧ Below X.heap.size X X' := by
  unfold rsV
  have HVa := hide fun (Y : World) (hY : Below X.heap.size X Y) => RValid_at ad cd d Y (ho.below hY (Nat.le_refl _)) hdl ht
  rw [hv] at HVa
  have HLe := hide fun (Y : World) (hY : Below X.heap.size X Y) => RLens_at ad cd d Y (ho.below hY (Nat.le_refl _)) hdl hv
  have HPl := hide fun (Y : World) (hY : Below X.heap.size X Y) (p g : Int) (hp : 0 ≤ p ∧ p ≤ frD d) (hg : g = 1 ∨ g = 2) => RPlaceR_at ad cd d p g Y (ho.below hY (Nat.le_refl _)) hdl hv hp hg
  have HL := hide fun (Y : World) (hY : Below X.heap.size X Y) => h.below hY (Nat.le_refl _)
  have HIn : Hid (∀ x ∈ l, (0 ≤ x.lo ∧ x.lo ≤ frD d ∧ 0 ≤ x.hi ∧ x.hi ≤ frD d) ∧ (x.st = 1 ∨ x.st = 2) ∧ (x.en = 1 ∨ x.en = 2)) := hide fun x hx => by
    obtain ⟨h1, h2, h3⟩ := hi0 x hx
    exact ⟨by omega, h2, h3⟩
  have t1 : ((frD d : Int) != n) = false := by rw [hf]; simp
  have t1' : ((frD d : Int) == n) = true := by rw [hf]; simp
  have k2 := (Cls.new X 30 #[.int .i64 n, .slice a l.length c]).alloc (.cells #[.int .i64 0, .slice none 0 0] 30)
  have k4 := Cls.new (X.alloc (.cells #[.int .i64 n, .slice a l.length c] 30)) 30 #[.int .i64 0, .slice none 0 0]
  have b1 := (Below.refl X.heap.size X).alloc (Nat.le_refl _) (.cells #[.int .i64 n, .slice a l.length c] 30)
  have b3 := b1.alloc b1.size (.cells #[.int .i64 0, .slice none 0 0] 30)
  rw [World.size_alloc] at k4
  obtain ⟨N, hN⟩ : ∃ N, N = l.length := ⟨_, rfl⟩
  have HN := hide hN
  have HK := hide (And.intro k2 (And.intro k4 b3))
  have HC1 := hide (unhide HVa _ b3)
  rw [← hN] at HK HC1 hl ⊢
  clear hN k2 k4 b1 b3 h ho hi0 hv hf ht hdl HVa
  generalize (toD d : Int) = TD at *
  generalize (frD d : Int) = FD at *
  go_enter Try.func25, Try.ntmps25
  go_wp2_with fail
  refine (unhide HC1).mono ?_
  rintro y w1 ⟨rfl, x1⟩
  dsimp only
  obtain ⟨k2, k4, b3⟩ := unhide HK
  have k2 := k2.below x1 k2.lt
  have k4 := k4.below x1 k4.lt
  have hb1 := b3.trans (x1.mono b3.size)
  have hs1 : X.heap.size + 2 ≤ w1.heap.size := by have := k4.lt; omega
  clear HC1 HK b3 x1
  have HK1 := hide (And.intro k2 (And.intro k4 (And.intro hb1 hs1)))
  have HC2 := hide (unhide HLe w1 hb1)
  obtain ⟨c0, c1⟩ := clsR_two k2
  clear k2 k4 hb1 hs1 HLe
  go_wp2_with fail
  refine (unhide HC2).mono ?_
  rintro y w2 ⟨rfl, x2⟩
  dsimp only
  obtain ⟨k2, k4, hb1, hs1⟩ := unhide HK1
  have k2 := k2.below x2 k2.lt
  have k4 := k4.below x2 k4.lt
  have hb2 := hb1.trans (x2.mono hb1.size)
  have hs2 : X.heap.size + 2 ≤ w2.heap.size := Nat.le_trans hs1 x2.size
  have b4 := (Below.refl w2.heap.size w2).alloc (Nat.le_refl _) (.cells #[.int .i64 TD, .slice none 0 0] 30)
  have HJ0 : Hid (BeJ X (w2.alloc (.cells #[.int .i64 TD, .slice none 0 0] 30)) n (.slice a N c) TD w2.heap.size [] [] (.slice none 0 0) (.slice none 0 0)) := hide ⟨k2.below b4 k2.lt, k4.below b4 k4.lt, Cls.new w2 _ _, World.ownsRow_nil _ _ _ _, World.ownsRow_nil _ _ _ _, fun _ => rfl, hb2.trans (b4.mono hb2.size), hs2⟩
  clear c0 c1
  obtain ⟨c0, c1⟩ := clsR_two k2
  clear HC2 HK1 k2 k4 hb1 hs1 hb2 hs2 b4 x2
  go_wp2_with fail
  generalize hbt : w2.heap.size = bt at *
  clear hbt c0 c1
  go_loopw [11, 12, 13, 14, 15] (fun v11 v12 v13 v14 v15 wx => ((∃ z, v13 = z) ∧ (∃ z, v14 = z) ∧ (∃ z, v15 = z)) ∧ ∃ (i : Nat) (vo : Value), v12 = .int .i64 (i : Int) ∧ i ≤ N ∧ Hid (BeJ X wx n (.slice a N c) TD bt ((l.take i).foldl (behS d) ([], [])).1 ((l.take i).foldl (behS d) ([], [])).2 vo v11)) (fun _ v12 _ _ _ _ => N - (intOf v12).toNat)
  case atStart => exact ⟨⟨⟨_, rfl⟩, ⟨_, rfl⟩, ⟨_, rfl⟩⟩, 0, _, rfl, Nat.zero_le _, HJ0⟩
  case round =>
    clear HJ0
    obtain ⟨⟨⟨z1, rfl⟩, ⟨z2, rfl⟩, ⟨z3, rfl⟩⟩, i, vo, rfl, hi, HJ⟩ := hrel
    have k2 := (unhide HJ).k2
    obtain ⟨c0, c1⟩ := clsR_two k2
    by_cases hlt : i < N
    · have t2 : decide ((i : Int) < (N : Int)) = true := decide_eq_true (by omega)
      have hlt' : i < l.length := by rw [← unhide HN]; exact hlt
      obtain ⟨eg, eo, ha, heg, e0, e1, e2, e3, e4⟩ := (unhide HL wr (unhide HJ).d).five hlt'
      have hst := beh_take (d := d) hlt'
      have hmm : l.getD i rgZ ∈ l := by rw [List.getD_eq_getElem?_getD, List.getElem?_eq_getElem hlt']; exact List.getElem_mem hlt'
      have hbd := unhide HIn _ hmm
      have hln := behL_len d (l.take i) ([], [])
      rw [List.length_take] at hln
      simp only [List.length_nil] at hln
      subst ha
      generalize l.getD i rgZ = m at *
      obtain ⟨mn, ml, mh, ms, me⟩ := m
      dsimp only at e0 e1 e2 e3 e4 hbd
      have HST := hide hst
      generalize (l.take i).foldl (behS d) ([], []) = pq at *
      obtain ⟨q, G⟩ := pq
      dsimp only at HJ hln
      have hjB := (unhide HJ).on ((Below.refl wr.heap.size wr).alloc (Nat.le_refl _) (.cells #[.string mn, .int .i64 ml, .int .i64 mh, .int .i64 ms, .int .i64 me] 37))
      have HJB := hide hjB
      have HKx := hide (Cls.new wr 37 #[.string mn, .int .i64 ml, .int .i64 mh, .int .i64 ms, .int .i64 me])
      have HP1 := hide (unhide HPl _ hjB.d ml ms ⟨hbd.1.1, hbd.1.2.1⟩ hbd.2.1)
      have HBD := hide hbd
      have HLN := hide hln
      have HOB : Hid ((∀ G, vo.ownBlock = some G → G ≠ wr.heap.size) ∧ X.heap.size ≤ wr.heap.size) := hide ⟨fun G hG => by
        obtain ⟨_, cur, hc⟩ := rowD_block (unhide HJ).o hG
        exact Nat.ne_of_lt (Array.getElem?_eq_some_iff.1 hc).1, (unhide HJ).d.size⟩
      clear hst hmm hbd hln hlt' HJ k2 hjB heg
      go_upto_region 13 with fail
      clear c0 c1 e0 e1 e2 e3 e4
      generalize wr.alloc (.cells #[.string mn, .int .i64 ml, .int .i64 mh, .int .i64 ms, .int .i64 me] 37) = wB at *
      generalize hbX : wr.heap.size = bX at *
      clear hbX
      obtain ⟨d0, d1, d2, d3, d4⟩ := clsR_five (unhide HKx)
      go_wp2_with fail
      refine (unhide HP1).mono ?_
      rintro y w3 ⟨rfl, x3⟩
      dsimp only
      clear d0 d1 d2 d3 d4
      obtain ⟨V1, hV1⟩ : ∃ V1, V1 = plV d ml ms := ⟨_, rfl⟩
      rw [← hV1]
      have HV1 := hide hV1
      have k3 := (unhide HKx).below x3 (unhide HKx).lt
      have f1 := k3.frozen 1
      obtain ⟨d0, d1, d2, d3, d4⟩ := clsR_five k3
      have j3 := (unhide HJB).on x3
      have HK4 : Hid (Cls (w3.setCell ⟨bX, 1, none⟩ (.int .i64 V1)) bX 37 #[.string mn, .int .i64 V1, .int .i64 mh, .int .i64 ms, .int .i64 me]) := hide (k3.set 1 _)
      have HJ4 : Hid (BeJ X (w3.setCell ⟨bX, 1, none⟩ (.int .i64 V1)) n (.slice (some ⟨eg, eo, none⟩) N c) TD bt q G vo u11) := hide (j3.box k3 (unhide HOB).1 (unhide HOB).2)
      clear HP1 hV1 k3 j3 x3 HJB HKx
      go_upto_region 14 with fail
      clear d0 d1 d2 d3 d4 f1
      generalize w3.setCell ⟨bX, 1, none⟩ (.int .i64 V1) = w4 at *
      obtain ⟨d0, d1, d2, d3, d4⟩ := clsR_five (unhide HK4)
      have HP2 := hide (unhide HPl _ (unhide HJ4).d mh me ⟨(unhide HBD).1.2.2.1, (unhide HBD).1.2.2.2⟩ (unhide HBD).2.2)
      go_wp2_with fail
      refine (unhide HP2).mono ?_
      rintro y w5 ⟨rfl, x5⟩
      dsimp only
      clear d0 d1 d2 d3 d4
      obtain ⟨V2, hV2⟩ : ∃ V2, V2 = plV d mh me := ⟨_, rfl⟩
      rw [← hV2]
      have HV2 := hide hV2
      have k5 := (unhide HK4).below x5 (unhide HK4).lt
      have f2 := k5.frozen 2
      obtain ⟨d0, d1, d2, d3, d4⟩ := clsR_five k5
      have j5 := (unhide HJ4).on x5
      have HK6 : Hid (Cls (w5.setCell ⟨bX, 2, none⟩ (.int .i64 V2)) bX 37 #[.string mn, .int .i64 V1, .int .i64 V2, .int .i64 ms, .int .i64 me]) := hide (k5.set 2 _)
      have HJ6 : Hid (BeJ X (w5.setCell ⟨bX, 2, none⟩ (.int .i64 V2)) n (.slice (some ⟨eg, eo, none⟩) N c) TD bt q G vo u11) := hide (j5.box k5 (unhide HOB).1 (unhide HOB).2)
      clear HP2 hV2 k5 j5 x5 HJ4 HK4
      go_upto_region 15 with fail
      clear d0 d1 d2 d3 d4 f2
      generalize w5.setCell ⟨bX, 2, none⟩ (.int .i64 V2) = w6 at *
      have HMV : Hid (mvG d ⟨mn, ml, mh, ms, me⟩ = ⟨mn, V1, V2, ms, me⟩) := hide (by unfold mvG; rw [unhide HV1, unhide HV2])
      have HSt : Hid (stG d ⟨mn, ml, mh, ms, me⟩ = decide (V1 < V2)) := hide (by unfold stG; rw [unhide HMV])
      obtain ⟨d0, d1, d2, d3, d4⟩ := clsR_five (unhide HK6)
      by_cases hlt2 : V1 < V2
      · have t3 : decide (V1 < V2) = true := decide_eq_true hlt2
        have HS2 : Hid (behS d (q, G) ⟨mn, ml, mh, ms, me⟩ = (insG ⟨mn, V1, V2, ms, me⟩ q, G)) := hide (by unfold behS; rw [unhide HSt, t3, if_pos rfl, unhide HMV])
        obtain ⟨av, cv, hvo, _⟩ := rowD_form (unhide HJ6).o
        subst hvo
        obtain ⟨_, _, e9, i9, _⟩ := own_isRl (unhide HJ6).o
        injection e9 with e91 e92 e93
        subst e91
        obtain ⟨g0, g1⟩ := clsR_two (unhide HJ6).k
        have HPu := hide (RPutR_at av cv q ⟨mn, V1, V2, ms, me⟩ w6 i9 (by have := (unhide HLN).1; omega))
        unfold rgV at HPu
        dsimp only at HPu
        clear i9 e92 e93 hlt2
        go_wp2_with fail
        refine (unhide HPu).mono ?_
        rintro y w7 ⟨v7, rfl, o7, x7⟩
        dsimp only
        have j7 := (unhide HJ6).on x7
        have f1 := j7.k.frozen 1
        clear d0 d1 d2 d3 d4 g0 g1
        obtain ⟨g0, g1⟩ := clsR_two j7.k
        have HJ8 : Hid (BeJ X (w7.setCell ⟨bt, 1, none⟩ v7) n (.slice (some ⟨eg, eo, none⟩) N c) TD bt (insG ⟨mn, V1, V2, ms, me⟩ q) G v7 u11) := hide (j7.put (rowD_base o7 (unhide HJ6).d.size))
        obtain ⟨av7, cv7, hv7, _⟩ := rowD_form o7
        subst hv7
        clear HPu j7 x7 o7 HJ6 HK6
        go_wp2_with fail
        go_roundw
        case rel => exact ⟨⟨⟨_, rfl⟩, ⟨_, rfl⟩, ⟨_, rfl⟩⟩, i + 1, _, by go_num, hlt, hide (by rw [unhide HST, unhide HS2]; exact unhide HJ8)⟩
        case measure => simp [intOf]; omega
      · have t3 : decide (V1 < V2) = false := decide_eq_false hlt2
        have HS2 : Hid (behS d (q, G) ⟨mn, ml, mh, ms, me⟩ = (q, insN mn G)) := hide (by unfold behS; rw [unhide HSt, t3]; rfl)
        clear hlt2
        obtain ⟨ag, cg, hvg, hcg⟩ := rowD_form (unhide HJ6).g
        subst hvg
        have hGl : G.length ≤ 1024 := by have := (unhide HLN).2; omega
        obtain ⟨GN, hGN⟩ : ∃ GN, GN = G.length := ⟨_, rfl⟩
        have HGN := hide hGN
        rw [← hGN] at hGl hcg ⊢
        have HJ6' : Hid (BeJ X w6 n (.slice (some ⟨eg, eo, none⟩) N c) TD bt q G vo (.slice ag GN cg)) := hide (by rw [hGN]; exact unhide HJ6)
        have HKB := hide (unhide HK6)
        clear HJ6 hGN HK6
        go_upto_region 18 with fail
        clear d0 d1 d2 d3 d4
        go_loopw [14] (fun v14 wx => ∃ k : Nat, v14 = .int .i64 (k : Int) ∧ k ≤ GN ∧ Hid (atN mn G GN = atN mn G k ∧ BeJ X wx n (.slice (some ⟨eg, eo, none⟩) N c) TD bt q G vo (.slice ag GN cg) ∧ Cls wx bX 37 #[.string mn, .int .i64 V1, .int .i64 V2, .int .i64 ms, .int .i64 me])) (fun v14 _ => (intOf v14).toNat)
        case atStart => exact ⟨GN, rfl, Nat.le_refl _, hide ⟨rfl, unhide HJ6', unhide HKB⟩⟩
        case round =>
          clear HJ6' HKB
          obtain ⟨k, rfl, hk, HI⟩ := hrel
          obtain ⟨hat, hJ, hK⟩ := unhide HI
          obtain ⟨d0, _, _, _, _⟩ := clsR_five hK
          rcases Nat.eq_zero_or_pos k with h0 | hpos
          · subst h0
            have hkk : 0 ≤ GN := Nat.zero_le _
            have hat' : atN mn G GN = 0 := hat
            by_cases hg0 : G = []
            · have hvz := hJ.z hg0
              injection hvz with z1 z2 z3
              subst z1 z2 z3
              subst hg0
              have HT : Hid (∀ nq, ∃ v1 W1, (Builtin.append_ #[49, 49] 49 #[.slice (some ⟨(wr.drewN nq).heap.size, 0, none⟩) 0 0, .slice none 0 0]).run Try.prog ((wr.drewN nq).alloc (.cells #[] 9)) = .ok v1 W1 ∧ Cls W1 bX 37 #[.string mn, .int .i64 V1, .int .i64 V2, .int .i64 ms, .int .i64 me] ∧ Below (wr.drewN nq).heap.size (wr.drewN nq) W1 ∧
                  ∃ v2 W2, (Builtin.append_ #[49, 49] 49 #[v1, .slice (some ⟨W1.heap.size, 0, none⟩) 1 1]).run Try.prog (W1.alloc (.cells #[.string mn] 9)) = .ok v2 W2 ∧
                  ∃ v3 W3, (Builtin.append_ #[49, 49] 49 #[v2, .slice none (0 - 0) 0]).run Try.prog W2 = .ok v3 W3 ∧ BeJ X W3 n (.slice (some ⟨eg, eo, none⟩) N c) TD bt q (insN mn ([] : List ByteArray)) vo v3) := hide fun nq => by
                have hT := BeJ.three (W := wr.drewN nq) (k := 0) (a1 := none) (c1 := 0) (a3 := none) (c3 := 0) (G := []) (cg := 0) (ag := none) (hJ.on (below_drewN (Below.refl _ _) nq)) mn (Nat.le_refl _) (by decide) (.inl rfl) (.inl rfl) hK
                exact hT
              clear HI hat hat' hJ hK hkk hcg
              go_upto_region 18 with fail
              go_quiet (fail)
              obtain ⟨v1, W1, r1, kW1, b1, v2, W2, r2, v3, W3, r3, hj3⟩ := unhide HT nq
              have R := hide r1
              have HR2 := hide r2
              have HR3 := hide r3
              have HKW := hide kW1
              have HJ9 := hide hj3
              clear r1 r2 r3 kW1 hj3 HT b1
              clear d0
              go_upto_region 21 with (at_builtin; refine wpList_append_known rfl _ _ 49 49 rfl _ _ rfl rfl _ _ (unhide R) ?_; clear R)
              obtain ⟨d0, _, _, _, _⟩ := clsR_five (unhide HKW)
              have R := HR2
              clear HR2
              go_upto_region 22 with (at_builtin; refine wpList_append_known rfl _ _ 49 49 rfl _ _ rfl rfl _ _ (unhide R) ?_; clear R)
              clear d0
              have R := HR3
              clear HR3
              go_wp2_with (at_builtin; refine wpList_append_known rfl _ _ 49 49 rfl _ _ rfl rfl _ _ (unhide R) ?_; clear R)
              go_roundw
              case rel => exact ⟨⟨⟨_, rfl⟩, ⟨_, rfl⟩, ⟨_, rfl⟩⟩, i + 1, _, by go_num, hlt, hide (by rw [unhide HST, unhide HS2]; exact unhide HJ9)⟩
              case measure => simp [intOf]; omega
            · have hgp : 0 < G.length := List.length_pos_iff.2 hg0
              obtain ⟨gg, cgg, evg, _⟩ := rowD_some hJ.g hgp
              injection evg with evg1 evg2 evg3
              subst evg1 evg3
              have hgn : 0 < GN := by rw [unhide HGN]; exact hgp
              have HT : Hid (∀ nq, ∃ v1 W1, (Builtin.append_ #[49, 49] 49 #[.slice (some ⟨(wr.drewN nq).heap.size, 0, none⟩) 0 0, .slice (some ⟨gg, 0, none⟩) 0 cg]).run Try.prog ((wr.drewN nq).alloc (.cells #[] 9)) = .ok v1 W1 ∧ Cls W1 bX 37 #[.string mn, .int .i64 V1, .int .i64 V2, .int .i64 ms, .int .i64 me] ∧ Below (wr.drewN nq).heap.size (wr.drewN nq) W1 ∧
                  ∃ v2 W2, (Builtin.append_ #[49, 49] 49 #[v1, .slice (some ⟨W1.heap.size, 0, none⟩) 1 1]).run Try.prog (W1.alloc (.cells #[.string mn] 9)) = .ok v2 W2 ∧
                  ∃ v3 W3, (Builtin.append_ #[49, 49] 49 #[v2, .slice (some ⟨gg, 0, none⟩) GN cg]).run Try.prog W2 = .ok v3 W3 ∧ BeJ X W3 n (.slice (some ⟨eg, eo, none⟩) N c) TD bt q (insN mn G) vo v3) := hide fun nq => by
                have hT := BeJ.three (W := wr.drewN nq) (k := 0) (a1 := (some ⟨gg, 0, none⟩)) (c1 := cg) (a3 := (some ⟨gg, 0, none⟩)) (c3 := cg) (by have := hJ.on (below_drewN (Below.refl _ _) nq); rw [unhide HGN] at this; exact this) mn (by rw [← unhide HGN]; exact hkk) (by rw [← unhide HGN]; exact hGl) (.inl (by simp)) (.inr ⟨gg, rfl, rfl⟩) hK
                rw [Nat.sub_zero, ← unhide HGN] at hT
                have e : insN mn G = G.take 0 ++ [mn] ++ G.drop 0 := by unfold insN; rw [← unhide HGN, hat']
                rw [e]
                exact hT
              clear HI hat hat' hJ hK hkk hgp hg0 evg2
              go_upto_region 18 with fail
              go_quiet (fail)
              obtain ⟨v1, W1, r1, kW1, b1, v2, W2, r2, v3, W3, r3, hj3⟩ := unhide HT nq
              have R := hide r1
              have HR2 := hide r2
              have HR3 := hide r3
              have HKW := hide kW1
              have HJ9 := hide hj3
              clear r1 r2 r3 kW1 hj3 HT b1
              clear d0
              go_upto_region 21 with (at_builtin; refine wpList_append_known rfl _ _ 49 49 rfl _ _ rfl rfl _ _ (unhide R) ?_; clear R)
              obtain ⟨d0, _, _, _, _⟩ := clsR_five (unhide HKW)
              have R := HR2
              clear HR2
              go_upto_region 22 with (at_builtin; refine wpList_append_known rfl _ _ 49 49 rfl _ _ rfl rfl _ _ (unhide R) ?_; clear R)
              clear d0
              have R := HR3
              clear HR3
              go_wp2_with (at_builtin; refine wpList_append_known rfl _ _ 49 49 rfl _ _ rfl rfl _ _ (unhide R) ?_; clear R)
              go_roundw
              case rel => exact ⟨⟨⟨_, rfl⟩, ⟨_, rfl⟩, ⟨_, rfl⟩⟩, i + 1, _, by go_num, hlt, hide (by rw [unhide HST, unhide HS2]; exact unhide HJ9)⟩
              case measure => simp [intOf]; omega
          · obtain ⟨k', hk'⟩ : ∃ k', k = k' + 1 := ⟨k - 1, by omega⟩
            have hG0 : 0 < G.length := by rw [← unhide HGN]; omega
            have hkl : k' < G.length := by rw [← unhide HGN]; omega
            obtain ⟨gg, cgg, evg, _⟩ := rowD_some hJ.g hG0
            injection evg with evg1 evg2 evg3
            subst evg1 evg3
            have hcell := strs_cells (by have := hJ.g; rw [evg2] at this; exact this) hkl
            have s1 : decide ((k : Int) > 0) = true := decide_eq_true (by omega)
            have s1' : decide ((0 : Int) < (k : Int)) = true := s1
            have s2 : (k' : Int) < (GN : Int) := by omega
            have s3 : (0 : Int) ≤ (k' : Int) := Int.natCast_nonneg k'
            have hatk : atN mn G k = if Op.bytesLess mn.toList (G.getD k' ⟨#[]⟩).toList then atN mn G k' else k := by rw [hk']; rfl
            have HK' := hide hk'
            have s5 := wrap_pred hk' (by omega)
            cases hb : Op.bytesLess mn.toList (G.getD k' ⟨#[]⟩).toList with
            | true =>
              rw [hb, if_pos rfl] at hatk
              have HI2 : Hid (∀ nq, atN mn G GN = atN mn G k' ∧ BeJ X (wr.drewN nq) n (.slice (some ⟨eg, eo, none⟩) N c) TD bt q G vo (.slice (some ⟨gg, 0, none⟩) GN cg) ∧ Cls (wr.drewN nq) bX 37 #[.string mn, .int .i64 V1, .int .i64 V2, .int .i64 ms, .int .i64 me]) := hide fun nq => ⟨hat.trans hatk, hJ.on (below_drewN (Below.refl _ _) nq), hK⟩
              generalize G.getD k' ⟨#[]⟩ = gk at *
              have s9 : k' ≤ GN ∧ k' < k := by omega
              clear HI hat hJ hK hatk hG0 hkl evg2 hk'
              go_upto_region 18 with fail
              go_quiet (fail)
              go_wp2_with fail
              refine ⟨⟨k', rfl, s9.1, hide (unhide HI2 nq)⟩, ?_⟩
              exact s9.2
            | false =>
              rw [hb] at hatk
              simp only [Bool.false_eq_true, if_false] at hatk
              have hat' : atN mn G GN = k := hat.trans hatk
              have hkk : k ≤ GN := hk
              have hD3 : G.drop k = [] ∨ ∃ g1, (some ⟨gg, 0, none⟩ : Option Addr) = some ⟨g1, 0, none⟩ ∧ (if cg = k then some ⟨gg, 0, none⟩ else some ⟨gg, k, none⟩ : Option Addr) = some ⟨g1, k, none⟩ := by
                by_cases e : cg = k
                · exact .inl (by rw [List.drop_eq_nil_iff, ← unhide HGN]; omega)
                · exact .inr ⟨gg, rfl, if_neg e⟩
              have HT : Hid (∀ nq, ∃ v1 W1, (Builtin.append_ #[49, 49] 49 #[.slice (some ⟨(wr.drewN nq).heap.size, 0, none⟩) 0 0, .slice (some ⟨gg, 0, none⟩) k cg]).run Try.prog ((wr.drewN nq).alloc (.cells #[] 9)) = .ok v1 W1 ∧ Cls W1 bX 37 #[.string mn, .int .i64 V1, .int .i64 V2, .int .i64 ms, .int .i64 me] ∧ Below (wr.drewN nq).heap.size (wr.drewN nq) W1 ∧
                  ∃ v2 W2, (Builtin.append_ #[49, 49] 49 #[v1, .slice (some ⟨W1.heap.size, 0, none⟩) 1 1]).run Try.prog (W1.alloc (.cells #[.string mn] 9)) = .ok v2 W2 ∧
                  ∃ v3 W3, (Builtin.append_ #[49, 49] 49 #[v2, .slice (if cg = k then some ⟨gg, 0, none⟩ else some ⟨gg, k, none⟩) (GN - k) (cg - k)]).run Try.prog W2 = .ok v3 W3 ∧ BeJ X W3 n (.slice (some ⟨eg, eo, none⟩) N c) TD bt q (insN mn G) vo v3) := hide fun nq => by
                have hT := BeJ.three (W := wr.drewN nq) (k := k) (a1 := (some ⟨gg, 0, none⟩)) (c1 := cg) (a3 := (if cg = k then some ⟨gg, 0, none⟩ else some ⟨gg, k, none⟩)) (c3 := (cg - k)) (by have := hJ.on (below_drewN (Below.refl _ _) nq); rw [unhide HGN] at this; exact this) mn (by rw [← unhide HGN]; exact hkk) (by rw [← unhide HGN]; exact hGl) (.inr ⟨gg, rfl, rfl⟩) hD3 hK
                rw [← unhide HGN] at hT
                have e : insN mn G = G.take k ++ [mn] ++ G.drop k := by unfold insN; rw [← unhide HGN, hat']
                rw [e]
                exact hT
              generalize G.getD k' ⟨#[]⟩ = gk at *
              clear HI hat hat' hJ hK hatk hG0 hkl evg2 hk' hD3
              go_upto_region 18 with fail
              go_quiet (fail)
              obtain ⟨v1, W1, r1, kW1, b1, v2, W2, r2, v3, W3, r3, hj3⟩ := unhide HT nq
              have R := hide r1
              have HR2 := hide r2
              have HR3 := hide r3
              have HKW := hide kW1
              have HJ9 := hide hj3
              clear r1 r2 r3 kW1 hj3 HT b1
              clear d0
              go_upto_region 21 with (at_builtin; refine wpList_append_known rfl _ _ 49 49 rfl _ _ rfl rfl _ _ (unhide R) ?_; clear R)
              obtain ⟨d0, _, _, _, _⟩ := clsR_five (unhide HKW)
              have R := HR2
              clear HR2
              go_upto_region 22 with (at_builtin; refine wpList_append_known rfl _ _ 49 49 rfl _ _ rfl rfl _ _ (unhide R) ?_; clear R)
              clear d0
              have R := HR3
              clear HR3
              go_wp2_with (at_builtin; refine wpList_append_known rfl _ _ 49 49 rfl _ _ rfl rfl _ _ (unhide R) ?_; clear R)
              go_roundw
              case rel => exact ⟨⟨⟨_, rfl⟩, ⟨_, rfl⟩, ⟨_, rfl⟩⟩, i + 1, _, by go_num, hlt, hide (by rw [unhide HST, unhide HS2]; exact unhide HJ9)⟩
              case measure => simp [intOf]; omega
    · obtain rfl : i = N := by omega
      have t2 : decide ((i : Int) < (i : Int)) = false := decide_eq_false (by omega)
      have hta : l.take i = l := by rw [unhide HN]; exact List.take_length
      rw [hta] at HJ
      change Hid (BeJ X wr n (.slice a i c) TD bt (behL d l).1 (behL d l).2 vo u11) at HJ
      obtain ⟨g0, g1⟩ := clsR_two (unhide HJ).k
      have k4 := (unhide HJ).k4
      obtain ⟨av, cv, hvo, _⟩ := rowD_form (unhide HJ).o
      obtain ⟨ag, cg, hvg, _⟩ := rowD_form (unhide HJ).g
      subst hvo hvg
      have k9 := (clsR_put2 k4 (.int .i64 TD) (.slice av (behL d l).1.length cv) (unhide HJ).d (show X.heap.size ≤ X.heap.size + 1 by omega))
      obtain ⟨r0, r1⟩ := clsR_two k9.1
      have HB9 := hide k9.2
      have ho9 : ((wr.setCell ⟨X.heap.size + 1, 0, none⟩ (.int .i64 TD)).setCell ⟨X.heap.size + 1, 1, none⟩ (.slice av (behL d l).1.length cv)).ownsRow X.heap.size 37 5 (.slice av (behL d l).1.length cv) (behL d l).1.length (rgsV (behL d l).1) := row_setC (row_setC (unhide HJ).o k4 (by decide)) (k4.set 0 (.int .i64 TD)) (by decide)
      have hg9 : ((wr.setCell ⟨X.heap.size + 1, 0, none⟩ (.int .i64 TD)).setCell ⟨X.heap.size + 1, 1, none⟩ (.slice av (behL d l).1.length cv)).ownsRow X.heap.size 9 1 (.slice ag (behL d l).2.length cg) (behL d l).2.length (strsV (behL d l).2) := row_setC (row_setC (unhide HJ).g k4 (by decide)) (k4.set 0 (.int .i64 TD)) (by decide)
      have HO9 := hide (And.intro ho9 hg9)
      have f0 := k4.frozen 0
      have f1 := k4.frozen 1
      obtain ⟨z0, z1⟩ := clsR_two k4
      clear HJ hta hlt k2 k4 k9 ho9 hg9
      generalize hb1 : (behL d l).1 = Q9 at *
      generalize hb2 : (behL d l).2 = G9 at *
      have HB1 := hide hb1
      have HB2 := hide hb2
      clear hb1 hb2
      generalize hq9 : Q9.length = q9 at *
      generalize hg9 : G9.length = g9 at *
      have HQ9 := hide hq9
      have HG9 := hide hg9
      clear hq9 hg9
      go_wp2_with fail
      refine bodyPost_ret (v := .tuple #[.agg #[.int .i64 TD, .slice av q9 cv], .slice ag g9 cg, .int .i64 0]) (by simp [results, Try.results25, go_sem, r0, r1]) rfl ?_
      exact ⟨_, _, rfl, by rw [unhide HB1, unhide HQ9]; exact (unhide HO9).1, by rw [unhide HB2, unhide HG9]; exact (unhide HO9).2, unhide HB9⟩
end Go.Proofs.Ytifpjdodignflaa
end

section
namespace Go.Proofs.Ytifpjdodignflaa
open Go.ChangeShapes Go.WideShapes Go.ChangeAt Go.RowKit
attribute [local go_sem] Oper.semAt_some

set_option maxRecDepth 100000 in
set_option maxHeartbeats 4000000 in
theorem RBehR_no (n : Int) (a : Option Addr) (c N : Nat) (ad : Option Addr) (cd : Nat) (d : List Dop) (X : World) (ho : IsO X ad d) (hdl : d.length ≤ 4611686018427387904) (ht : ∀ o ∈ d, o.t.length ≤ 140737488355328) (hv : valB d = false) :
    Calls Try.prog 25 #[.agg #[.int .i64 n, .slice a N c], .slice ad d.length cd] X fun y X' => y = .returned (.tuple #[.agg #[.int .i64 n, .slice a N c], .slice none 0 0, .int .i64 130]) ∧ Below X.heap.size X X' := by
  have HVa := hide fun (Y : World) (hY : Below X.heap.size X Y) => RValid_at ad cd d Y (ho.below hY (Nat.le_refl _)) hdl ht
  rw [hv] at HVa
  have k2 := (Cls.new X 30 #[.int .i64 n, .slice a N c]).alloc (.cells #[.int .i64 0, .slice none 0 0] 30)
  have k4 := Cls.new (X.alloc (.cells #[.int .i64 n, .slice a N c] 30)) 30 #[.int .i64 0, .slice none 0 0]
  have b1 := (Below.refl X.heap.size X).alloc (Nat.le_refl _) (.cells #[.int .i64 n, .slice a N c] 30)
  have b3 := b1.alloc b1.size (.cells #[.int .i64 0, .slice none 0 0] 30)
  rw [World.size_alloc] at k4
  have HK := hide (And.intro k2 (And.intro k4 b3))
  have HC1 := hide (unhide HVa _ b3)
  clear k2 k4 b1 b3 ho hv ht hdl HVa
  go_enter Try.func25, Try.ntmps25
  go_wp2_with fail
  refine (unhide HC1).mono ?_
  rintro y w1 ⟨rfl, x1⟩
  dsimp only
  obtain ⟨k2, k4, b3⟩ := unhide HK
  have k2 := k2.below x1 k2.lt
  have k4 := k4.below x1 k4.lt
  have hb1 := b3.trans (x1.mono b3.size)
  obtain ⟨c0, c1⟩ := clsR_two k2
  have k9 := (clsR_put2 k4 (.int .i64 n) (.slice a N c) hb1 (show X.heap.size ≤ X.heap.size + 1 by omega))
  obtain ⟨r0, r1⟩ := clsR_two k9.1
  have HB9 := hide k9.2
  have f0 := k4.frozen 0
  have f1 := k4.frozen 1
  obtain ⟨z0, z1⟩ := clsR_two k4
  clear k9 k2 k4 hb1 HC1 HK b3 x1
  go_wp2_with fail
  refine bodyPost_ret (v := .tuple #[.agg #[.int .i64 n, .slice a N c], .slice none 0 0, .int .i64 130]) (by simp [results, Try.results25, go_sem, r0, r1]) rfl ⟨rfl, unhide HB9⟩
set_option maxRecDepth 100000 in
set_option maxHeartbeats 4000000 in
theorem RBehR_fit (n : Int) (a : Option Addr) (c N : Nat) (ad : Option Addr) (cd : Nat) (d : List Dop) (X : World) (ho : IsO X ad d) (hdl : d.length ≤ 4611686018427387904) (ht : ∀ o ∈ d, o.t.length ≤ 140737488355328) (hv : valB d = true) (hf : (frD d : Int) ≠ n) :
    Calls Try.prog 25 #[.agg #[.int .i64 n, .slice a N c], .slice ad d.length cd] X fun y X' => y = .returned (.tuple #[.agg #[.int .i64 n, .slice a N c], .slice none 0 0, .int .i64 131]) ∧ Below X.heap.size X X' := by
  have HVa := hide fun (Y : World) (hY : Below X.heap.size X Y) => RValid_at ad cd d Y (ho.below hY (Nat.le_refl _)) hdl ht
  rw [hv] at HVa
  have HLe := hide fun (Y : World) (hY : Below X.heap.size X Y) => RLens_at ad cd d Y (ho.below hY (Nat.le_refl _)) hdl hv
  have t1 : ((frD d : Int) != n) = true := by simpa using hf
  have t1' : ((frD d : Int) == n) = false := by simpa using hf
  have k2 := (Cls.new X 30 #[.int .i64 n, .slice a N c]).alloc (.cells #[.int .i64 0, .slice none 0 0] 30)
  have k4 := Cls.new (X.alloc (.cells #[.int .i64 n, .slice a N c] 30)) 30 #[.int .i64 0, .slice none 0 0]
  have b1 := (Below.refl X.heap.size X).alloc (Nat.le_refl _) (.cells #[.int .i64 n, .slice a N c] 30)
  have b3 := b1.alloc b1.size (.cells #[.int .i64 0, .slice none 0 0] 30)
  rw [World.size_alloc] at k4
  have HK := hide (And.intro k2 (And.intro k4 b3))
  have HC1 := hide (unhide HVa _ b3)
  clear k2 k4 b1 b3 ho hv ht hdl HVa hf
  generalize (toD d : Int) = TD at *
  generalize (frD d : Int) = FD at *
  go_enter Try.func25, Try.ntmps25
  go_wp2_with fail
  refine (unhide HC1).mono ?_
  rintro y w1 ⟨rfl, x1⟩
  dsimp only
  obtain ⟨k2, k4, b3⟩ := unhide HK
  have k2 := k2.below x1 k2.lt
  have k4 := k4.below x1 k4.lt
  have hb1 := b3.trans (x1.mono b3.size)
  have HK1 := hide (And.intro k2 (And.intro k4 hb1))
  have HC2 := hide (unhide HLe w1 hb1)
  obtain ⟨c0, c1⟩ := clsR_two k2
  clear k2 k4 hb1 HC1 HK b3 x1 HLe
  go_wp2_with fail
  refine (unhide HC2).mono ?_
  rintro y w2 ⟨rfl, x2⟩
  dsimp only
  obtain ⟨k2, k4, hb1⟩ := unhide HK1
  have k2 := k2.below x2 k2.lt
  have k4 := k4.below x2 k4.lt
  have hb2 := hb1.trans (x2.mono hb1.size)
  clear c0 c1
  obtain ⟨c0, c1⟩ := clsR_two k2
  have k9 := (clsR_put2 k4 (.int .i64 n) (.slice a N c) hb2 (show X.heap.size ≤ X.heap.size + 1 by omega))
  obtain ⟨r0, r1⟩ := clsR_two k9.1
  have HB9 := hide k9.2
  have f0 := k4.frozen 0
  have f1 := k4.frozen 1
  obtain ⟨z0, z1⟩ := clsR_two k4
  clear k9 k2 k4 hb1 hb2 HC2 HK1 x2
  go_wp2_with fail
  refine bodyPost_ret (v := .tuple #[.agg #[.int .i64 n, .slice a N c], .slice none 0 0, .int .i64 131]) (by simp [results, Try.results25, go_sem, r0, r1]) rfl ⟨rfl, unhide HB9⟩
end Go.Proofs.Ytifpjdodignflaa
end
