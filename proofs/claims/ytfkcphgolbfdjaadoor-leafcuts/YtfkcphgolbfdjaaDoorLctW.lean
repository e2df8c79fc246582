/- LeafCuts: the walk (written by wip/tools/lct.py). -/
import Derived.Test.YtfkcphgolbfdjaaDoorLcpM
import Derived.Test.YtfkcphgolbfdjaaDoorLboW
namespace Go.Proofs.YtfkcphgolbfdjaaDoor
open Go.ChangeShapes Go.WideShapes Go.ChangeAt Go.RowKit
attribute [local go_sem] Oper.semAt_some

theorem row_sl {X : World} {B n : Nat} {v : Value} {t : TypeId} {xs : List Value} (h : X.ownsRow B t 1 v n xs) : ∃ a c, v = .slice a n c := by
  rcases h.2 with ⟨rfl, h0⟩ | ⟨g, cap, cur, rfl, _⟩
  · exact ⟨none, 0, by rw [h0]⟩
  · exact ⟨_, cap, rfl⟩
theorem row_cell {X : World} {B n c : Nat} {a : Option Addr} {t : TypeId} {xs : List Value} (h : X.ownsRow B t 1 (.slice a n c) n xs) {k : Nat} {x : Value} (hk : k < n) (hx : xs[k]? = some x) : ∃ g, a = some ⟨g, 0, none⟩ ∧ X.cell? ⟨g, k, none⟩ = some x := by
  have hc := h
  rcases h.2 with ⟨e, h0⟩ | ⟨g, cap, cur, e, _⟩
  · omega
  · cases e
    refine ⟨g, rfl, ?_⟩
    have := World.ownsRow.cells hc rfl k _ hx
    rwa [Addr.add_lit, Nat.zero_add] at this
theorem cut_isB {w : World} {a0 : Option Addr} {cap : Nat} {l : List Int} (h : IsB w a0 cap l) {p : Nat × Nat} (h1 : p.1 < p.2) (h2 : p.2 ≤ l.length) : IsB w (some ⟨(a0.getD ⟨0, 0, none⟩).block, (a0.getD ⟨0, 0, none⟩).off + p.1, none⟩) (cap - p.1) ((l.take p.2).drop p.1) := by
  have h3 := (h.takeP (n := p.2)).loP (n := p.1)
  have h4 := h.1
  rw [if_neg (by omega)] at h3
  rcases h.2.2.1 with h5 | ⟨g, off, rfl, _⟩
  · rw [h5] at h2; simp at h2; omega
  · simpa [Addr.add_lit] using h3
theorem row_has {X : World} {B n s : Nat} {v : Value} {t : TypeId} {xs : List Value} (h : X.ownsRow B t s v n xs) : ∀ g, v.ownBlock = some g → g < X.heap.size := fun g hg => (World.ownsRow.lt h g hg).2

set_option maxRecDepth 100000 in
set_option maxHeartbeats 8000000 in
theorem LeafCuts_any (a0 : Option Addr) (cap : Nat) (l : List Int) (m : Int) (w : World) (hB : IsN w a0 cap l) (_hk : (Lit.int .i64 m).wf = true) (hW : Wt w) :
    Calls Tryd.prog 3 #[.slice a0 l.length cap, .int .i64 m] w fun e w' => e = .returned (.bool true) ∧ Below w.heap.size w w' := by
  clear _hk
  have HLB := hide hB.1.2.2.2
  have hnb := hB.1.2.1
  have hcap := hB.1.1
  have HAB := hide (And.intro hB hW)
  clear hB hW
  go_enter Tryd.func3, Tryd.ntmps3
  go_wp2_with fail
  refine (fixed8_at w (unhide HAB).2).mono ?_
  rintro e w1 ⟨rfl, b1⟩
  by_cases hok : (1 ≤ m ∧ m ≤ 4096) ∧ l.length ≤ 268435456
  case neg =>
    obtain ⟨ev, hev, hE1, hE2⟩ : ∃ ev : Int, ev ≠ 0 ∧ (∀ X, Calls Tryd.prog 8 #[.slice a0 l.length cap, .int .i64 m] X fun y w' => y = .returned (.tuple #[.slice none 0 0, .int .i64 ev]) ∧ w' = X) ∧
        (∀ a c X, Calls Tryd.prog 9 #[.slice a l.length c, .int .i64 m] X fun y w' => y = .returned (.tuple #[.slice none 0 0, .int .i64 ev]) ∧ w' = X) := by
      by_cases hm : m < 1 ∨ 4096 < m
      · exact ⟨80, by decide, fun X => RCutE_at a0 l.length cap m X hm, fun a c X => CutE_at a l.length c m X hm⟩
      · obtain ⟨n, rfl⟩ : ∃ n : Nat, m = (n : Int) := ⟨m.toNat, by omega⟩
        exact ⟨5, by decide, fun X => RCutLong_at a0 l.length cap n X (by omega) (by omega) (by omega), fun a c X => CutLong_at a l.length c n X (by omega) (by omega) (by omega)⟩
    have HE1 := hide hE1
    have HE2 := hide hE2
    have t1 : (ev != 0) = true := by simpa using hev
    have t1' : (ev == 0) = false := by simpa using hev
    clear hE1 hE2 hok hev
    go_wp2_with fail
    refine (unhide HE1 w1).mono ?_
    rintro e w1' ⟨rfl, hw1⟩
    rw [hw1]
    clear hw1 w1'
    obtain ⟨v2, w2, r2, o2, x2⟩ := run_copy_own w1 a0 cap l 22 ((unhide HAB).1.below b1 (Nat.le_refl _)).1
    obtain ⟨a2, c2, rfl, n2⟩ := own_isN o2 (unhide HLB) hnb
    have b2 := b1.trans (x2.mono b1.size)
    have R2 := hide r2
    clear r2 o2 x2 b1 n2
    dsimp only
    go_wp2_with (at_builtin; refine wpList_append_known rfl _ _ 22 22 rfl _ _ rfl rfl _ _ (unhide R2) ?_)
    refine (unhide HE2 a2 c2 w2).mono ?_
    rintro e w2' ⟨rfl, hw2⟩
    rw [hw2]
    clear hw2 w2' R2
    go_wp2_with fail
    go_loopw [9, 10, 11, 12, 43] (fun v9 v10 v11 v12 vk wx => vk = .int .i64 0 ∧ (∃ z, v9 = z) ∧ (∃ z, v10 = z) ∧ (∃ z, v11 = z) ∧ (∃ z, v12 = z) ∧ wx = w2) (fun _ _ _ _ _ _ => 0)
    case atStart => exact ⟨rfl, ⟨_, rfl⟩, ⟨_, rfl⟩, ⟨_, rfl⟩, ⟨_, rfl⟩, rfl⟩
    case round =>
      obtain ⟨rfl, ⟨z1, rfl⟩, ⟨z2, rfl⟩, ⟨z3, rfl⟩, ⟨z4, rfl⟩, rfl⟩ := hrel
      go_wp2_with fail
      go_ret
      exact ⟨rfl, b2⟩
  obtain ⟨⟨hm1, hm2⟩, hl2⟩ := hok
  obtain ⟨n, rfl⟩ : ∃ n : Nat, m = (n : Int) := ⟨m.toNat, by omega⟩
  have hn1 : 1 ≤ n := by omega
  have hn2 : n ≤ 4096 := by omega
  clear hm1 hm2
  go_wp2_with fail
  refine (RCut_at a0 cap l n w1 ((unhide HAB).1.below b1 (Nat.le_refl _)).1 hn1 hn2 hl2).mono ?_
  rintro e wq ⟨vW, rfl, oW, xW⟩
  have bq := b1.trans (xW.mono b1.size)
  obtain ⟨v2, w2, r2, o2, x2⟩ := run_copy_own wq a0 cap l 22 ((unhide HAB).1.below bq (Nat.le_refl _)).1
  obtain ⟨a2, c2, rfl, n2⟩ := own_isN o2 (unhide HLB) hnb
  have b2 := bq.trans (x2.mono bq.size)
  have R2 := hide r2
  have hW2 := (unhide HAB).2.below b2
  have oW2 := row_on oW x2
  have zq := b1.size
  clear r2 o2 x2 xW oW bq
  dsimp only
  go_wp2_with (at_builtin; refine wpList_append_known rfl _ _ 22 22 rfl _ _ rfl rfl _ _ (unhide R2) ?_)
  clear R2
  refine (Cut_at a2 c2 l n w2 n2 hW2 hn1 hn2 hl2).mono ?_
  rintro e w3 ⟨vC, gs, rfl, oC, kC, x3⟩
  have b3 := b2.trans (x3.mono b2.size)
  have oW3 := row_base (row_on oW2 x3) zq
  have hgs : gs.length = (prs l n).length := by rw [kC.1, pcs_prs]
  have oC3 := row_base oC b2.size
  have hpl : (prs l n).length ≤ 268435456 := by rw [← pcs_prs]; have := pcs_len (l := l) (m := n) hn1; omega
  have S3 : LoS w w3.heap.size gs (pcs l n) ((prs l n).map (cutV (a0.getD ⟨0, 0, none⟩).block (a0.getD ⟨0, 0, none⟩).off cap)) vC vW w3 := ⟨b3, ⟨b3.size, Nat.le_refl _⟩, ⟨kC.1, fun i hi => ⟨(kC.2 i hi).1, Nat.le_trans b2.size (kC.2 i hi).2⟩⟩, fun i hi => (kC.2 i hi).1.lt, oC3, row_has oC3, by simpa using oW3, row_has oW3⟩
  obtain ⟨aC, cC, rfl⟩ := row_sl oC
  obtain ⟨aW, cW, rfl⟩ := row_sl oW3
  have HS3 := hide S3
  have HGS := hide hgs
  clear S3 oC oC3 oW2 oW3 kC x3 b2 b3 n2 hW2 zq b1
  rw [unhide HGS] at HS3 ⊢
  clear hgs
  have HCV := hide fun (p : Nat × Nat) (h1 : p.1 < p.2) (h2 : p.2 ≤ l.length) => cut_isB (unhide HAB).1.1 h1 h2
  generalize hqs : (prs l n).map (cutV (a0.getD ⟨0, 0, none⟩).block (a0.getD ⟨0, 0, none⟩).off cap) = qs at *
  have HQS := hide hqs
  generalize hNN : (prs l n).length = N at *
  have HNN := hide hNN
  clear hqs hNN
  have tne : ((N : Int) != (N : Int)) = false := by simp
  go_wp2_with fail
  clear tne
  generalize hBB : w3.heap.size = B at *
  clear hBB
  go_loopw [9, 10, 11, 12, 43] (fun v9 v10 v11 v12 vk wx => ∃ k b : Nat, vk = .int .i64 (k : Int) ∧ k ≤ N ∧ (∃ z, v11 = z) ∧ (∃ z, v12 = z) ∧ Hid (CtI l n k b) ∧ Hid (LoS w B gs (pcs l n) qs (.slice aC N cC) (.slice aW N cW) wx) ∧ Hid (CtR B (l.take b) k ((pcs l n).take k) v9 v10 wx)) (fun _ _ _ _ vk _ => N - (intOf vk).toNat)
  case atStart => exact ⟨0, 0, rfl, Nat.zero_le _, ⟨_, rfl⟩, ⟨_, rfl⟩, hide (CtI.zero l n), HS3, hide ⟨⟨rfl, Or.inl ⟨rfl, rfl⟩⟩, ⟨rfl, Or.inl ⟨rfl, rfl⟩⟩, fun g hg => by cases hg⟩⟩
  case round =>
    clear HS3
    obtain ⟨k, b, rfl, hk, ⟨z1, rfl⟩, ⟨z2, rfl⟩, HI, HS, HR⟩ := hrel
    by_cases hlt : k < N
    · have t1 : decide ((k : Int) < (N : Int)) = true := decide_eq_true (by omega)
      have hkp : k < (prs l n).length := by rw [unhide HNN]; exact hlt
      obtain ⟨e1, e2, e3, hI2⟩ := (unhide HI).next hn1 hkp
      have hpc := pcs_at hkp e3
      have hgk : k < gs.length := by rw [unhide HGS]; exact hlt
      obtain ⟨gC, rfl, c1⟩ := row_cell (show wr.ownsRow w.heap.size 32 1 (.slice aC N cC) N (ptrs gs) by have := (unhide HS).r; rw [unhide HGS] at this; exact this) hlt (ptrs_get hgk)
      have hqk : qs[k]? = some (cutV (a0.getD ⟨0, 0, none⟩).block (a0.getD ⟨0, 0, none⟩).off cap (b, bdr l b n)) := by
        rw [← unhide HQS, List.getElem?_map, List.getElem?_eq_getElem hkp]
        rw [List.getD_eq_getElem?_getD, List.getElem?_eq_getElem hkp] at e3
        simpa using congrArg _ e3
      have hqn : qs.length = N := by rw [← unhide HQS, List.length_map, unhide HNN]
      obtain ⟨gW, rfl, c2'⟩ := row_cell (show wr.ownsRow w.heap.size 22 1 (.slice aW N cW) N qs by have := (unhide HS).q; rw [hqn] at this; exact this) hlt hqk
      have hib := unhide HCV (b, bdr l b n) e1 e2
      unfold cutV at c2'
      dsimp only at c2' hib
      have hplen : ((l.take (bdr l b n)).drop b).length = bdr l b n - b := by simp; omega
      have HLF : Hid (∀ X, LoS w B gs (pcs l n) qs (.slice (some ⟨gC, 0, none⟩) N cC) (.slice (some ⟨gW, 0, none⟩) N cW) X → IsLf X (gs.getD k 0) ((l.take (bdr l b n)).drop b)) := hide fun X h => by
        have := (h.l.2 k hgk).1
        rwa [hpc] at this
      have HIS := hide fun (X : World) (h : LoS w B gs (pcs l n) qs (.slice (some ⟨gC, 0, none⟩) N cC) (.slice (some ⟨gW, 0, none⟩) N cW) X) => is_at (gs.getD k 0) _ _ ((l.take (bdr l b n)).drop b) X (unhide HLF X h) (hib.below h.d (Nat.le_refl _)) (by omega)
      rw [hplen] at HIS
      have hpin : ∀ x ∈ (l.take (bdr l b n)).drop b, 0 ≤ x ∧ x ≤ 255 := fun x hx => unhide HLB x (List.mem_of_mem_take (List.mem_of_mem_drop hx))
      have HBY := hide fun (X : World) (h : IsLf X (gs.getD k 0) ((l.take (bdr l b n)).drop b)) => BytesL_at (gs.getD k 0) ((l.take (bdr l b n)).drop b) X h hpin (by omega)
      have HWE := hide fun (X : World) (h : IsLf X (gs.getD k 0) ((l.take (bdr l b n)).drop b)) => WeldL_at (gs.getD k 0) ((l.take (bdr l b n)).drop b) X h
      rw [we_of] at HWE
      have htk : l.take b ++ (l.take (bdr l b n)).drop b = l.take (bdr l b n) := by
        have : l.take b = (l.take (bdr l b n)).take b := by rw [List.take_take, show min b (bdr l b n) = b by omega]
        rw [this, List.take_append_drop]
      have hpt : (pcs l n).take (k + 1) = (pcs l n).take k ++ [(l.take (bdr l b n)).drop b] := by
        have hk3 : k < (pcs l n).length := by rw [pcs_prs]; exact hkp
        rw [List.take_add_one, List.getElem?_eq_getElem hk3, Option.toList_some, ← hpc, List.getD_eq_getElem?_getD, List.getElem?_eq_getElem hk3]
        rfl
      have HI2 := hide hI2
      have HTK := hide (And.intro htk hpt)
      have HLN : Hid ((l.take b).length + ((l.take (bdr l b n)).drop b).length ≤ 268435456) := hide (by rw [hplen]; simp; omega)
      have HPL := hide hplen
      clear e3 hpc hib hplen hpin htk hpt hI2 hqk hqn hkp hgk e1 e2 HI
      generalize bdr l b n = e at *
      generalize gs.getD k 0 = gp at *
      generalize (l.take e).drop b = pc at *
      go_wp2_with fail
      clear c1 c2'
      refine (unhide HIS _ (unhide HS)).mono ?_
      rintro y y1 ⟨rfl, x1⟩
      have HS1 := hide ((unhide HS).on x1)
      have HR1 := hide ((unhide HR).on x1)
      clear x1 HS HR HIS
      go_wp2_with fail
      refine (unhide HBY _ (unhide HLF _ (unhide HS1))).mono ?_
      rintro y y2 ⟨cB, rfl, nB, x2⟩
      have HS2 := hide ((unhide HS1).on x2)
      have HR2 := hide ((unhide HR1).on x2)
      clear x2 HS1 HR1
      obtain ⟨v3, y3, r3, k3, x3⟩ := (unhide HR2).bytes (unhide HS2).z.2 nB.1 (unhide HLN)
      have R3 := hide r3
      have HR3 := hide k3
      have HS3 := hide ((unhide HS2).low x3)
      clear r3 k3 x3 HR2 HS2 nB
      go_wp2_with (at_builtin; refine wpList_append_known rfl _ _ 22 22 rfl _ _ rfl rfl _ _ (unhide R3) ?_)
      go_wp2_with fail
      refine (unhide HWE _ (unhide HLF _ (unhide HS3))).mono ?_
      rintro y y4 ⟨rfl, x4⟩
      have HS4 := hide ((unhide HS3).on x4)
      have HR4 := hide ((unhide HR3).on x4)
      clear x4 HS3 HR3 HBY HWE HLF
      obtain ⟨v5, y5, r5, k5, x5⟩ := (unhide HR4).weld (unhide HS4).z.2 pc (by omega)
      rw [show (weC pc).toArray = #[.int .i64 (szL pc).b, .int .i64 (szL pc).r, .int .i64 (szL pc).u, .int .i64 (szL pc).e, .string (strOfNums (pc.take 3)), .string (strOfNums (tail3 pc))] from rfl] at r5
      have R5 := hide r5
      have HR5 : Hid (CtR B (l.take e) (k + 1) ((pcs l n).take (k + 1)) v3 v5 y5) := hide (by rw [(unhide HTK).2, ← (unhide HTK).1]; exact k5)
      have HS5 := hide ((unhide HS4).low x5)
      clear r5 k5 x5 HR4 HS4
      go_wp2_with (at_builtin; refine wpList_append_known rfl _ _ 31 31 rfl _ _ rfl rfl _ _ (unhide R5) ?_)
      go_roundw
      case rel => exact ⟨k + 1, e, by go_num, hlt, ⟨_, rfl⟩, ⟨_, rfl⟩, HI2, HS5, HR5⟩
      case measure => simp [intOf]; omega
    · obtain rfl : k = N := by omega
      have t1 : decide ((k : Int) < (k : Int)) = false := decide_eq_false (by omega)
      have hbe : b = l.length := (show CtI l n (prs l n).length b by rw [unhide HNN]; exact unhide HI).end
      subst hbe
      have hR := unhide HR
      have hpn : (pcs l n).length = k := by rw [pcs_prs, unhide HNN]
      rw [List.take_length, show (pcs l n).take k = pcs l n by rw [← hpn, List.take_length]] at hR
      obtain ⟨aA, cA, rfl, nA⟩ := own_isN hR.a (unhide HLB) (by omega)
      obtain ⟨aM, cM, rfl, hM⟩ := ws_row hR.m hpn.symm
      have HSu := SumP_at aM cM (pcs l n) wr hM (pcs_in (unhide HLB)) (by rw [pcs_flat hn1]; exact hl2) (by omega) ((unhide HAB).2.below (unhide HS).d)
      rw [pcs_flat hn1, hpn, we_of] at HSu
      have HOf := hide fun (X : World) (h : Below w.heap.size w X) => ROf_at a0 cap l X ((unhide HAB).1.below h (Nat.le_refl _)).1 hl2
      rw [we_of] at HOf
      have HD := hide (unhide HS).d
      have HNA := hide nA
      rw [hpn]
      clear HS HR hR hM nA HI hpn HCV HQS
      generalize (szL l).b = zb at *
      generalize (szL l).r = zr at *
      generalize (szL l).u = zu at *
      generalize (szL l).e = ze at *
      generalize strOfNums (List.take 3 l) = zh at *
      generalize strOfNums (tail3 l) = zt at *
      go_wp2_with fail
      refine HSu.mono ?_
      rintro y y1 ⟨rfl, x1⟩
      have x2 := (Below.refl y1.heap.size y1).alloc (Nat.le_refl _) (.cells #[.int .i64 zb, .int .i64 zr, .int .i64 zu, .int .i64 ze, .string zh, .string zt] 38)
      have g2 := push_get y1 (.cells #[.int .i64 zb, .int .i64 zr, .int .i64 zu, .int .i64 ze, .string zh, .string zt] 38)
      have x12 := x1.trans (x2.mono x1.size)
      have HD2 := hide ((unhide HD).trans (x12.mono (unhide HD).size))
      have HN2 := hide ((unhide HNA).below x12 (Nat.le_refl _))
      have HG2 := hide g2
      clear x1 x2 x12 g2 HSu HD HNA
      go_wp2_with fail
      generalize hgZ : y1.heap.size = gZ at *
      clear hgZ
      generalize y1.alloc (.cells #[.int .i64 zb, .int .i64 zr, .int .i64 zu, .int .i64 ze, .string zh, .string zt] 38) = y2 at *
      have xd := drewW y2
      have HD3 := hide ((unhide HD2).trans (xd.mono (unhide HD2).size))
      have HN3 := hide ((unhide HN2).below xd (Nat.le_refl _))
      have HG3 := hide ((xd.block gZ (Array.getElem?_eq_some_iff.1 (unhide HG2)).1).trans (unhide HG2))
      clear xd HD2 HN2 HG2
      have HSW : Hid (∀ X : World, IsN X aA cA l → Below w.heap.size w X → X.heap[gZ]? = some (.cells #[.int .i64 zb, .int .i64 zr, .int .i64 zu, .int .i64 ze, .string zh, .string zt] 38 (0, 0)) → (fun w' : World => ((convert 22 9 (.slice aA l.length cA)).run Tryd.prog w' = .ok (.string (strOfNums l)) w' ∧ (convert 22 9 (.slice a0 l.length cap)).run Tryd.prog w' = .ok (.string (strOfNums l)) w') ∧ w'.cell? ⟨gZ, 0, none⟩ = some (.int .i64 zb) ∧ w'.cell? ⟨gZ, 1, none⟩ = some (.int .i64 zr) ∧ w'.cell? ⟨gZ, 2, none⟩ = some (.int .i64 zu) ∧ w'.cell? ⟨gZ, 3, none⟩ = some (.int .i64 ze) ∧ w'.cell? ⟨gZ, 4, none⟩ = some (.string zh) ∧ w'.cell? ⟨gZ, 5, none⟩ = some (.string zt)) X) := hide fun X h1 h2 h3 => by
        obtain ⟨p0, p1, p2, p3, p4, p5, _⟩ := cells6 h3
        exact ⟨⟨str_bs X aA cA l h1.1.2.2.1, str_bs X a0 cap l ((unhide HAB).1.below h2 (Nat.le_refl _)).1.2.2.1⟩, p0, p1, p2, p3, p4, p5⟩
      refine regionL (S := fun w' => ((convert 22 9 (.slice aA l.length cA)).run Tryd.prog w' = .ok (.string (strOfNums l)) w' ∧ (convert 22 9 (.slice a0 l.length cap)).run Tryd.prog w' = .ok (.string (strOfNums l)) w') ∧ w'.cell? ⟨gZ, 0, none⟩ = some (.int .i64 zb) ∧ w'.cell? ⟨gZ, 1, none⟩ = some (.int .i64 zr) ∧ w'.cell? ⟨gZ, 2, none⟩ = some (.int .i64 zu) ∧ w'.cell? ⟨gZ, 3, none⟩ = some (.int .i64 ze) ∧ w'.cell? ⟨gZ, 4, none⟩ = some (.string zh) ∧ w'.cell? ⟨gZ, 5, none⟩ = some (.string zt)) (fun _ => false) (by kernel_rfl) ?_
      generalize y2.drew = y3 at *
      refine anyL_take (i := 0) (v := ?vct0) rfl (by kernel_rfl) (by kernel_rfl) (by kernel_rfl) (by kernel_rfl) (fun _ _ _ h => h) (Or.inl ⟨by rfl, ?hct0⟩) (unhide HSW _ (unhide HN3) (unhide HD3) (unhide HG3)) ?_
      case hct0 => (intro w hSw; (try dsimp only at hSw); go_simp) <;> with_reducible rfl
      simp only [Act.put, List.getElem_toArray, List.getElem_cons_zero, List.setIfInBounds_toArray, List.set_cons_zero, List.set_cons_succ]
      refine anyL_take (i := 1) (v := ?vct1) rfl (by kernel_rfl) (by kernel_rfl) (by kernel_rfl) (by kernel_rfl) (fun _ _ _ h => h) (Or.inl ⟨by rfl, ?hct1⟩) (unhide HSW _ (unhide HN3) (unhide HD3) (unhide HG3)) ?_
      case hct1 => (intro w hSw; (try dsimp only at hSw); go_simp) <;> with_reducible rfl
      simp only [Act.put, List.getElem_toArray, List.getElem_cons_zero, List.getElem_cons_succ, List.setIfInBounds_toArray, List.set_cons_zero, List.set_cons_succ]
      refine anyL_take (i := 2) (v := ?vct2) rfl (by kernel_rfl) (by kernel_rfl) (by kernel_rfl) (by kernel_rfl) (fun _ _ _ h => h) (Or.inl ⟨by rfl, ?hct2⟩) (unhide HSW _ (unhide HN3) (unhide HD3) (unhide HG3)) ?_
      case hct2 => (intro w hSw; (try dsimp only at hSw); go_simp) <;> with_reducible rfl
      simp only [Act.put, List.getElem_toArray, List.getElem_cons_zero, List.getElem_cons_succ, List.setIfInBounds_toArray, List.set_cons_zero, List.set_cons_succ]
      refine anyL_take (i := 3) (v := ?vct3) rfl (by kernel_rfl) (by kernel_rfl) (by kernel_rfl) (by kernel_rfl) (fun _ _ _ h => h) (Or.inl ⟨by rfl, ?hct3⟩) (unhide HSW _ (unhide HN3) (unhide HD3) (unhide HG3)) ?_
      case hct3 => (intro w hSw; (try dsimp only at hSw); go_simp) <;> with_reducible rfl
      simp only [Act.put, List.getElem_toArray, List.getElem_cons_zero, List.getElem_cons_succ, List.setIfInBounds_toArray, List.set_cons_zero, List.set_cons_succ]
      refine anyL_take (i := 4) (v := ?vct4) rfl (by kernel_rfl) (by kernel_rfl) (by kernel_rfl) (by kernel_rfl) (fun _ _ _ h => h) (Or.inl ⟨by rfl, ?hct4⟩) (unhide HSW _ (unhide HN3) (unhide HD3) (unhide HG3)) ?_
      case hct4 => (intro w hSw; (try dsimp only at hSw); go_simp) <;> with_reducible rfl
      simp only [Act.put, List.getElem_toArray, List.getElem_cons_zero, List.getElem_cons_succ, List.setIfInBounds_toArray, List.set_cons_zero, List.set_cons_succ]
      refine anyL_take (i := 5) (v := ?vct5) rfl (by kernel_rfl) (by kernel_rfl) (by kernel_rfl) (by kernel_rfl) (fun _ _ _ h => h) (Or.inl ⟨by rfl, ?hct5⟩) (unhide HSW _ (unhide HN3) (unhide HD3) (unhide HG3)) ?_
      case hct5 => (intro w hSw; (try dsimp only at hSw); go_simp) <;> with_reducible rfl
      simp only [Act.put, List.getElem_toArray, List.getElem_cons_zero, List.getElem_cons_succ, List.setIfInBounds_toArray, List.set_cons_zero, List.set_cons_succ]
      refine anyL_take (i := 6) (v := ?vct6) rfl (by kernel_rfl) (by kernel_rfl) (by kernel_rfl) (by kernel_rfl) (fun _ _ _ h => h) (Or.inl ⟨by rfl, ?hct6⟩) (unhide HSW _ (unhide HN3) (unhide HD3) (unhide HG3)) ?_
      case hct6 => (intro w hSw; (try dsimp only at hSw); go_simp) <;> with_reducible rfl
      simp only [Act.put, List.getElem_toArray, List.getElem_cons_zero, List.getElem_cons_succ, List.setIfInBounds_toArray, List.set_cons_zero, List.set_cons_succ]
      refine anyL_take (i := 7) (v := ?vct7) rfl (by kernel_rfl) (by kernel_rfl) (by kernel_rfl) (by kernel_rfl) (fun _ _ _ h => h) (Or.inl ⟨by rfl, ?hct7⟩) (unhide HSW _ (unhide HN3) (unhide HD3) (unhide HG3)) ?_
      case hct7 => (intro w hSw; (try dsimp only at hSw); go_simp) <;> with_reducible rfl
      simp only [Act.put, List.getElem_toArray, List.getElem_cons_zero, List.getElem_cons_succ, List.setIfInBounds_toArray, List.set_cons_zero, List.set_cons_succ]
      refine anyL_take (i := 8) (v := ?vct8) rfl (by kernel_rfl) (by kernel_rfl) (by kernel_rfl) (by kernel_rfl) (fun _ _ _ h => h) (Or.inl ⟨by rfl, ?hct8⟩) (unhide HSW _ (unhide HN3) (unhide HD3) (unhide HG3)) ?_
      case hct8 => (intro w hSw; (try dsimp only at hSw); go_simp) <;> with_reducible rfl
      simp only [Act.put, List.getElem_toArray, List.getElem_cons_zero, List.getElem_cons_succ, List.setIfInBounds_toArray, List.set_cons_zero, List.set_cons_succ]
      refine anyL_take (i := 9) (v := ?vct9) rfl (by kernel_rfl) (by kernel_rfl) (by kernel_rfl) (by kernel_rfl) (fun _ _ _ h => h) (Or.inl ⟨by rfl, ?hct9⟩) (unhide HSW _ (unhide HN3) (unhide HD3) (unhide HG3)) ?_
      case hct9 => (intro w hSw; (try dsimp only at hSw); go_simp) <;> with_reducible rfl
      simp only [Act.put, List.getElem_toArray, List.getElem_cons_zero, List.getElem_cons_succ, List.setIfInBounds_toArray, List.set_cons_zero, List.set_cons_succ]
      refine anyL_take (i := 10) (v := ?vct10) rfl (by kernel_rfl) (by kernel_rfl) (by kernel_rfl) (by kernel_rfl) (fun _ _ _ h => h) (Or.inl ⟨by rfl, ?hct10⟩) (unhide HSW _ (unhide HN3) (unhide HD3) (unhide HG3)) ?_
      case hct10 => (intro w hSw; (try dsimp only at hSw); go_simp) <;> with_reducible rfl
      simp only [Act.put, List.getElem_toArray, List.getElem_cons_zero, List.getElem_cons_succ, List.setIfInBounds_toArray, List.set_cons_zero, List.set_cons_succ]
      refine anyL_take (i := 11) (v := ?vct11) rfl (by kernel_rfl) (by kernel_rfl) (by kernel_rfl) (by kernel_rfl) (fun _ _ _ h => h) (Or.inl ⟨by rfl, ?hct11⟩) (unhide HSW _ (unhide HN3) (unhide HD3) (unhide HG3)) ?_
      case hct11 => (intro w hSw; (try dsimp only at hSw); go_simp) <;> with_reducible rfl
      simp only [Act.put, List.getElem_toArray, List.getElem_cons_zero, List.getElem_cons_succ, List.setIfInBounds_toArray, List.set_cons_zero, List.set_cons_succ]
      refine anyL_ready (rs := [12]) (by kernel_rfl) (by simp) ?_
      refine AllL.cons rfl (fun K hK => ?_) AllL.nil
      go_simp
      refine (unhide HOf _ (unhide HD3)).mono ?_
      rintro y y4 ⟨rfl, x4⟩
      have HD4 := hide ((unhide HD3).trans (x4.mono (unhide HD3).size))
      have HN4 := hide ((unhide HN3).below x4 (Nat.le_refl _))
      have HG4 := hide ((x4.block gZ (Array.getElem?_eq_some_iff.1 (unhide HG3)).1).trans (unhide HG3))
      refine unhide hK _ _ (fun _ => unhide HSW _ (unhide HN4) (unhide HD4) (unhide HG4)) ?_
      clear hK K x4 HD3 HN3 HG3
      refine anyL_take (i := 13) (v := ?vct12) rfl (by kernel_rfl) (by kernel_rfl) (by kernel_rfl) (by kernel_rfl) (fun _ _ _ h => h) (Or.inl ⟨by rfl, ?hct12⟩) (unhide HSW _ (unhide HN4) (unhide HD4) (unhide HG4)) ?_
      case hct12 => (intro w hSw; (try dsimp only at hSw); go_simp) <;> with_reducible rfl
      simp only [Act.put, List.getElem_toArray, List.getElem_cons_zero, List.getElem_cons_succ, List.setIfInBounds_toArray, List.set_cons_zero, List.set_cons_succ]
      refine anyL_take (i := 14) (v := ?vct13) rfl (by kernel_rfl) (by kernel_rfl) (by kernel_rfl) (by kernel_rfl) (fun _ _ _ h => h) (Or.inl ⟨by rfl, ?hct13⟩) (unhide HSW _ (unhide HN4) (unhide HD4) (unhide HG4)) ?_
      case hct13 => (intro w hSw; (try dsimp only at hSw); go_simp) <;> with_reducible rfl
      simp only [Act.put, List.getElem_toArray, List.getElem_cons_zero, List.getElem_cons_succ, List.setIfInBounds_toArray, List.set_cons_zero, List.set_cons_succ]
      refine anyL_take (i := 15) (v := ?vct14) rfl (by kernel_rfl) (by kernel_rfl) (by kernel_rfl) (by kernel_rfl) (fun _ _ _ h => h) (Or.inl ⟨by rfl, ?hct14⟩) (unhide HSW _ (unhide HN4) (unhide HD4) (unhide HG4)) ?_
      case hct14 => (intro w hSw; (try dsimp only at hSw); go_simp) <;> with_reducible rfl
      simp only [Act.put, List.getElem_toArray, List.getElem_cons_zero, List.getElem_cons_succ, List.setIfInBounds_toArray, List.set_cons_zero, List.set_cons_succ]
      refine anyL_done (by kernel_rfl) ?_ _
      go_wp2_with fail
      go_ret
      exact ⟨rfl, unhide HD4⟩

end Go.Proofs.YtfkcphgolbfdjaaDoor
