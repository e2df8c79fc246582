/- WeldPieces: the walk (written by wip/tools/wpc.py). -/
import Derived.Test.YtlhobpjiclcpiaaDoorWcr
import Derived.Test.YtlhobpjiclcpiaaDoorWhv
import Derived.Test.YtlhobpjiclcpiaaDoorWfx
import Derived.Test.YtlhobpjiclcpiaaDoorLayN
import Derived.Deep.Cut
import Derived.Deep.DeepCutAuto
namespace Go.Proofs.YtlhobpjiclcpiaaDoor
open Go.ChangeShapes Go.WideShapes Go.ChangeAt Go.RowKit
attribute [local go_sem] Oper.semAt_some

theorem drewP (w : World) : Below w.heap.size w w.drew := (Below.refl _ _).drew
theorem setP_other (X : World) (g g' : Nat) (a b c d e f : Value) (hne : g' ≠ g) : ((((((X.setCell ⟨g, 0, none⟩ a).setCell ⟨g, 1, none⟩ b).setCell ⟨g, 2, none⟩ c).setCell ⟨g, 3, none⟩ d).setCell ⟨g, 4, none⟩ e).setCell ⟨g, 5, none⟩ f).heap[g']? = X.heap[g']? := by
  rw [Below.heap_setCell _ _ _ g' hne, Below.heap_setCell _ _ _ g' hne, Below.heap_setCell _ _ _ g' hne, Below.heap_setCell _ _ _ g' hne, Below.heap_setCell _ _ _ g' hne, Below.heap_setCell _ _ _ g' hne]
theorem own_isP {W : World} {B : Nat} {v : Value} {l : List Int} (h : Own W B v l) (hl : ∀ x ∈ l, 0 ≤ x ∧ x ≤ 255) (hn : l.length ≤ 140737488351232) : ∃ a c, v = .slice a l.length c ∧ IsN W a c l := by
  have hc := h
  rcases h.2 with ⟨rfl, h0⟩ | ⟨g, cap, cur, rfl, _, hg, hle, _⟩
  · exact ⟨none, 0, by rw [h0], ⟨by omega, hn, Or.inl (List.length_eq_zero_iff.1 h0), hl⟩, fun _ => rfl⟩
  · exact ⟨_, cap, rfl, ⟨hle, hn, Or.inr ⟨g, 0, rfl, hc.lies hl⟩, hl⟩, fun e => by cases e⟩
theorem flat_len (ls : List (List Int)) : ls.flatten.length = bulkL ls := by simp [bulkL, List.length_flatten]
/-- measures in a row (in block gM), two boxes of the whole's measure, one box of what stands behind k pieces -/
structure WpS (w : World) (gM : Nat) (ls : List (List Int)) (g7 g8 g10 : Nat) (Z : Array Value) (k : Nat) (X : World) : Prop where
  d : Below w.heap.size w X
  m : ∀ i, i < ls.length → ∀ j, j < 6 → X.cell? ⟨gM, i * 6 + j, none⟩ = (weC (ls.getD i []))[j]?
  mz : gM < X.heap.size
  a : X.heap[g7]? = some (.cells Z 27 (0, 0))
  b : X.heap[g8]? = some (.cells Z 27 (0, 0))
  c : X.heap[g10]? = some (.cells (weC (ls.drop k).flatten).toArray 27 (0, 0))
  ne : gM ≠ g10 ∧ g7 ≠ g10 ∧ g8 ≠ g10 ∧ w.heap.size ≤ g10
theorem bkp_lt {X : World} {g : Nat} {o : Obj} (h : X.heap[g]? = some o) : g < X.heap.size := (Array.getElem?_eq_some_iff.1 h).1
theorem WpS.on {w : World} {gM : Nat} {ls : List (List Int)} {g7 g8 g10 : Nat} {Z : Array Value} {k : Nat} {X Y : World} (h : WpS w gM ls g7 g8 g10 Z k X) (hb : Below X.heap.size X Y) : WpS w gM ls g7 g8 g10 Z k Y :=
  ⟨h.d.trans (hb.mono h.d.size), fun i hi j hj => (hb.cell (p := ⟨gM, i * 6 + j, none⟩) h.mz).trans (h.m i hi j hj), Nat.lt_of_lt_of_le h.mz hb.size, bkh_on h.a hb, bkh_on h.b hb, bkh_on h.c hb, h.ne⟩
theorem WpS.fresh {w : World} {gM : Nat} {ls : List (List Int)} {g7 g8 g10 : Nat} {Z : Array Value} {k : Nat} {X : World} (h : WpS w gM ls g7 g8 g10 Z k X) : X.heap.size ≠ g10 ∧ X.heap.size ≠ g7 ∧ X.heap.size ≠ g8 ∧ X.heap.size ≠ gM ∧ w.heap.size ≤ X.heap.size := by
  have h1 := bkp_lt h.a
  have h2 := bkp_lt h.b
  have h3 := bkp_lt h.c
  have h4 := h.mz
  have h5 := h.d.size
  omega
theorem WpS.put {w : World} {gM : Nat} {ls : List (List Int)} {g7 g8 g10 : Nat} {Z : Array Value} {k : Nat} {X : World} (h : WpS w gM ls g7 g8 g10 Z k X) {g : Nat} (hne : g ≠ g10 ∧ g ≠ g7 ∧ g ≠ g8 ∧ g ≠ gM ∧ w.heap.size ≤ g) (a b c d e f : Value) :
    WpS w gM ls g7 g8 g10 Z k ((((((X.setCell ⟨g, 0, none⟩ a).setCell ⟨g, 1, none⟩ b).setCell ⟨g, 2, none⟩ c).setCell ⟨g, 3, none⟩ d).setCell ⟨g, 4, none⟩ e).setCell ⟨g, 5, none⟩ f) := by
  have o : ∀ g', g' ≠ g → _ = X.heap[g']? := fun g' hg' => setP_other X g g' a b c d e f hg'
  have bl := below6 h.d hne.2.2.2.2 a b c d e f
  have hs : X.heap.size ≤ ((((((X.setCell ⟨g, 0, none⟩ a).setCell ⟨g, 1, none⟩ b).setCell ⟨g, 2, none⟩ c).setCell ⟨g, 3, none⟩ d).setCell ⟨g, 4, none⟩ e).setCell ⟨g, 5, none⟩ f).heap.size := (set6_below (X := X) (g := g) a b c d e f).size
  exact ⟨bl, fun i hi j hj => (World.cell?_of_block (a := ⟨gM, i * 6 + j, none⟩) (o gM (fun e => hne.2.2.2.1 e.symm))).trans (h.m i hi j hj), Nat.lt_of_lt_of_le h.mz hs,
    (o g7 (fun e => hne.2.1 e.symm)).trans h.a, (o g8 (fun e => hne.2.2.1 e.symm)).trans h.b, (o g10 (fun e => hne.1 e.symm)).trans h.c, h.ne⟩
/-- the box takes another measure -/
theorem WpS.next {w : World} {gM : Nat} {ls : List (List Int)} {g7 g8 g10 : Nat} {Z : Array Value} {k k' : Nat} {X : World} (h : WpS w gM ls g7 g8 g10 Z k X) {x0 x1 x2 x3 x4 x5 a b c d e f : Value} (hc : (weC (ls.drop k).flatten).toArray = #[x0, x1, x2, x3, x4, x5]) (hv : (weC (ls.drop k').flatten).toArray = #[a, b, c, d, e, f]) :
    WpS w gM ls g7 g8 g10 Z k' ((((((X.setCell ⟨g10, 0, none⟩ a).setCell ⟨g10, 1, none⟩ b).setCell ⟨g10, 2, none⟩ c).setCell ⟨g10, 3, none⟩ d).setCell ⟨g10, 4, none⟩ e).setCell ⟨g10, 5, none⟩ f) := by
  have o : ∀ g', g' ≠ g10 → _ = X.heap[g']? := fun g' hg' => setP_other X g10 g' a b c d e f hg'
  have h1 := h.c
  rw [hc] at h1
  have h2 := box6_all h1 a b c d e f
  rw [← hv] at h2
  exact ⟨below6 h.d h.ne.2.2.2 a b c d e f, fun i hi j hj => (World.cell?_of_block (a := ⟨gM, i * 6 + j, none⟩) (o gM h.ne.1)).trans (h.m i hi j hj), Nat.lt_of_lt_of_le h.mz (set6_below (X := X) (g := g10) a b c d e f).size,
    (o g7 h.ne.2.1).trans h.a, (o g8 h.ne.2.2.1).trans h.b, h2, h.ne⟩
theorem wcq (q : List Int) : (weC q).toArray = #[.int .i64 (szL q).b, .int .i64 (szL q).r, .int .i64 (szL q).u, .int .i64 (szL q).e, .string (strOfNums (List.take 3 q)), .string (strOfNums (tail3 q))] := rfl

set_option maxRecDepth 100000 in
set_option maxHeartbeats 16000000 in
theorem WeldPieces_any (a0 : Option Addr) (cap : Nat) (ls : List (List Int)) (w : World) (hB : IsNN w a0 ls) (hb : bulkL ls + ls.length ≤ 1048576) (hW : Wt w) :
    Calls Tryd.prog 6 #[.slice a0 ls.length cap] w fun e w' => e = .returned (.bool true) ∧ Below w.heap.size w w' := by
  have HNN := hide hB
  have hlen : ls.length ≤ 1048576 := by omega
  have hfl : ls.flatten.length ≤ 1048576 := by rw [flat_len]; omega
  have HIN : Hid (∀ p ∈ ls, ∀ x ∈ p, 0 ≤ x ∧ x ≤ 255) := hide (fun p hp => by
    rcases hB with h | ⟨g, off, _, _, hr⟩
    · rw [h] at hp; cases hp
    · obtain ⟨i, hi, rfl⟩ := List.mem_iff_getElem.1 hp
      obtain ⟨_, _, _, h2⟩ := hr i hi
      rw [List.getD_eq_getElem?_getD, List.getElem?_eq_getElem hi] at h2
      exact h2.1.2.2.2)
  have HFI : Hid (∀ x ∈ ls.flatten, 0 ≤ x ∧ x ≤ 255) := hide (fun x hx => by
    obtain ⟨q, hq, hx2⟩ := List.mem_flatten.1 hx
    exact unhide HIN q hq x hx2)
  have HWW := hide fun (X : World) (h : Below w.heap.size w X) => hW.below h
  have HFL := hide (show bulkL ls ≤ 268435456 by omega)
  clear hB hW hb
  go_enter Tryd.func6, Tryd.ntmps6
  go_wp2_with fail
  refine (fixed5_at w (unhide HWW w (Below.refl _ _))).mono ?_
  rintro e w1 ⟨rfl, b1⟩
  have HZ := hide b1.size
  go_wp2_with fail
  generalize hBB : w1.heap.size = B at *
  have HBB : Hid (B ≤ w1.heap.size) := hide (by omega)
  clear hBB
  go_loopw [3, 4, 6, 20] (fun v3 v4 v6 vk wx => ∃ k : Nat, vk = .int .i64 (k : Int) ∧ k ≤ ls.length ∧ (∃ z, v6 = z) ∧ Hid (CtR B (ls.take k).flatten k (ls.take k) v3 v4 wx) ∧ Hid (Below w.heap.size w wx) ∧ Hid (B ≤ wx.heap.size)) (fun _ _ _ vk _ => ls.length - (intOf vk).toNat)
  case atStart => exact ⟨0, rfl, Nat.zero_le _, ⟨_, rfl⟩, hide ⟨⟨rfl, Or.inl ⟨rfl, rfl⟩⟩, ⟨rfl, Or.inl ⟨rfl, rfl⟩⟩, fun g hg => by cases hg⟩, hide b1, HBB⟩
  case round =>
    clear b1 HBB
    obtain ⟨k, rfl, hk, ⟨z, rfl⟩, HR, HD, HB⟩ := hrel
    by_cases hlt : k < ls.length
    · have t1 : decide ((k : Int) < (ls.length : Int)) = true := decide_eq_true (by omega)
      obtain ⟨g, off, A, C, rfl, c1, nA⟩ : ∃ g off A C, a0 = some ⟨g, off, none⟩ ∧ wr.cell? ⟨g, off + k, none⟩ = some (.slice A (ls.getD k []).length C) ∧ IsN wr A C (ls.getD k []) := by
        rcases (unhide HNN).below (unhide HD) (Nat.le_refl _) with h | ⟨g, off, e, _, hr⟩
        · rw [h] at hlt; simp at hlt
        · obtain ⟨A, C, h1, h2⟩ := hr k hlt
          exact ⟨g, off, A, C, e, h1, h2⟩
      have hft := fl_take hlt
      have hfle := fl_le ls (k + 1)
      rw [hft, List.length_append] at hfle
      have htk : ls.take (k + 1) = ls.take k ++ [ls.getD k []] := by
        rw [List.take_add_one, List.getElem?_eq_getElem hlt, Option.toList_some, List.getD_eq_getElem?_getD, List.getElem?_eq_getElem hlt]; rfl
      have HTK := hide (And.intro hft htk)
      obtain ⟨v3, y3, r3, k3, x3⟩ := (unhide HR).bytes (unhide HB) nA.1 (by omega)
      have d3 := (unhide HD).trans (x3.mono (unhide HZ))
      have nA3 : IsN y3 A C (ls.getD k []) := by
        rcases (unhide HNN).below d3 (Nat.le_refl _) with h | ⟨g', off', e, _, hr⟩
        · rw [h] at hlt; simp at hlt
        · obtain ⟨A', C', h1, h2⟩ := hr k hlt
          obtain ⟨rfl, rfl⟩ : g = g' ∧ off = off' := by simpa using e
          have hcc : y3.cell? ⟨g, off + k, none⟩ = wr.cell? ⟨g, off + k, none⟩ := x3.cell (p := ⟨g, off + k, none⟩) (by
            rcases unhide HNN with h | ⟨g2, off2, e2, hg2, _⟩
            · rw [h] at hlt; simp at hlt
            · obtain ⟨rfl, rfl⟩ : g = g2 ∧ off = off2 := by simpa using e2
              show g < B
              have := unhide HZ
              omega)
          rw [hcc, c1] at h1
          simp at h1
          obtain ⟨rfl, rfl⟩ := h1
          exact h2
      have hO := Of_at A C (ls.getD k []) y3 nA3 (by omega) (unhide HWW _ d3)
      rw [weq] at hO
      have R3' := hide r3
      have HR3 := hide k3
      have HD3 := hide d3
      have HB3 := hide (Nat.le_trans (unhide HB) x3.size)
      have HO := hide hO
      clear hft hfle htk r3 k3 x3 d3 nA nA3 hO HR HD HB
      generalize ls.getD k [] = pc at *
      go_wp2_with (at_builtin; refine wpList_append_known rfl _ _ 22 22 rfl _ _ rfl rfl _ _ (unhide R3') ?_)
      refine (unhide HO).mono ?_
      rintro y y4 ⟨rfl, x4⟩
      have HR4 := hide ((unhide HR3).on x4)
      have HD4 := hide ((unhide HD3).trans (x4.mono (unhide HD3).size))
      have HB4 := hide (Nat.le_trans (unhide HB3) x4.size)
      clear x4 HR3 HD3 HB3 HO c1 R3'
      obtain ⟨v5, y5, r5, k5, x5⟩ := (unhide HR4).weld (unhide HB4) pc (by omega)
      rw [wcq] at r5
      have R5 := hide r5
      have HR5 : Hid (CtR B (ls.take (k + 1)).flatten (k + 1) (ls.take (k + 1)) v3 v5 y5) := hide (by rw [(unhide HTK).1, (unhide HTK).2]; exact k5)
      have HD5 := hide ((unhide HD4).trans (x5.mono (unhide HZ)))
      have HB5 := hide (Nat.le_trans (unhide HB4) x5.size)
      clear r5 k5 x5 HR4 HD4 HB4
      go_wp2_with (at_builtin; refine wpList_append_known rfl _ _ 42 42 rfl _ _ rfl rfl _ _ (unhide R5) ?_)
      go_roundw
      case rel => exact ⟨k + 1, by go_num, hlt, ⟨_, rfl⟩, HR5, HD5, HB5⟩
      case measure => simp [intOf]; omega
    · obtain rfl : k = ls.length := by omega
      have t1 : decide ((ls.length : Int) < (ls.length : Int)) = false := decide_eq_false (by omega)
      have hR := unhide HR
      rw [List.take_length] at hR
      obtain ⟨aA, cA, rfl, nA⟩ := own_isP hR.a (unhide HFI) (by omega)
      obtain ⟨aM, cM, rfl, hM⟩ := ws_row hR.m rfl
      have hcM : ls.length ≤ cM := by
        rcases hR.m.2 with ⟨e, h0⟩ | ⟨g, c, cur, e, _, _, hle, _⟩
        · rw [h0]; exact Nat.zero_le _
        · simp only [Value.slice.injEq] at e
          obtain ⟨_, _, rfl⟩ := e
          exact hle
      have t2 : decide ((ls.flatten.length : Int) > 268435456) = false := decide_eq_false (by omega)
      have t3 : decide ((268435456 : Int) < (ls.flatten.length : Int)) = false := decide_eq_false (by omega)
      have t4 : decide (268435456 < ls.flatten.length) = false := decide_eq_false (by omega)
      have HOf := hide (Of_at aA cA ls.flatten wr nA (by omega) (unhide HWW _ (unhide HD)))
      have HSu := hide fun (X : World) (m : WsAt X aM ls) (h : Below w.heap.size w X) => SumP_at aM cM ls X m (unhide HIN) (by omega) (by omega) (unhide HWW _ h)
      have HHv := hide fun (X : World) (m : WsAt X aM ls) (h : Below w.heap.size w X) => Halves_at ls.length aM cM ls X (Nat.le_refl _) m.o hcM (unhide HIN) (by omega) hlen (unhide HWW _ h)
      have HNi := hide fun (X : World) (h : Below w.heap.size w X) => Of_at none 0 [] X (⟨⟨Nat.le_refl _, Nat.zero_le _, Or.inl rfl, fun _ h => by cases h⟩, fun _ => rfl⟩ : IsN X none 0 []) (by simp) (unhide HWW _ h)
      rw [weq] at HOf
      simp only [weq] at HSu HHv HNi
      have HM := hide hM
      have HZ0 : Hid ((weC (ls.drop 0).flatten).toArray = #[.int .i64 (szL ls.flatten).b, .int .i64 (szL ls.flatten).r, .int .i64 (szL ls.flatten).u, .int .i64 (szL ls.flatten).e, .string (strOfNums (List.take 3 ls.flatten)), .string (strOfNums (tail3 ls.flatten))]) := hide (by rw [List.drop_zero]; rfl)
      have HE0 : Hid ((weC (ls.drop ls.length).flatten).toArray = #[.int .i64 (szL []).b, .int .i64 (szL []).r, .int .i64 (szL []).u, .int .i64 (szL []).e, .string (strOfNums (List.take 3 [])), .string (strOfNums (tail3 []))]) := hide (by rw [List.drop_length]; rfl)
      clear hR hM nA HR hcM HB
      generalize hfn : ls.flatten.length = fn at *
      clear hfn
      generalize (szL ls.flatten).b = zb at *
      generalize (szL ls.flatten).r = zr at *
      generalize (szL ls.flatten).u = zu at *
      generalize (szL ls.flatten).e = ze at *
      generalize strOfNums (List.take 3 ls.flatten) = zh at *
      generalize strOfNums (tail3 ls.flatten) = zt at *
      generalize (szL []).b = nb at *
      generalize (szL []).r = nr at *
      generalize (szL []).u = nu at *
      generalize (szL []).e = ne at *
      generalize strOfNums (List.take 3 []) = nh at *
      generalize strOfNums (tail3 []) = nt at *
      go_wp2_with fail
      clear t1 t2 t3 t4
      refine (unhide HOf).mono ?_
      rintro y y1 ⟨rfl, x1⟩
      have x2 := (Below.refl y1.heap.size y1).alloc (Nat.le_refl _) (.cells #[.int .i64 zb, .int .i64 zr, .int .i64 zu, .int .i64 ze, .string zh, .string zt] 27)
      have g2 := push_get y1 (.cells #[.int .i64 zb, .int .i64 zr, .int .i64 zu, .int .i64 ze, .string zh, .string zt] 27)
      have x12 := x1.trans (x2.mono x1.size)
      have HD2 := hide ((unhide HD).trans (x12.mono (unhide HD).size))
      have HM2 := hide ((unhide HM).below x12 (Nat.le_refl _))
      have HG2 := hide g2
      clear x1 x2 x12 g2 HOf HD HM
      go_wp2_with fail
      generalize hg7 : y1.heap.size = g7 at *
      clear hg7
      generalize y1.alloc (.cells #[.int .i64 zb, .int .i64 zr, .int .i64 zu, .int .i64 ze, .string zh, .string zt] 27) = y2 at *
      refine (unhide HSu _ (unhide HM2) (unhide HD2)).mono ?_
      rintro y y3 ⟨rfl, x3⟩
      have x4 := (Below.refl y3.heap.size y3).alloc (Nat.le_refl _) (.cells #[.int .i64 zb, .int .i64 zr, .int .i64 zu, .int .i64 ze, .string zh, .string zt] 27)
      have g4 := push_get y3 (.cells #[.int .i64 zb, .int .i64 zr, .int .i64 zu, .int .i64 ze, .string zh, .string zt] 27)
      have x34 := x3.trans (x4.mono x3.size)
      have HD4 := hide ((unhide HD2).trans (x34.mono (unhide HD2).size))
      have HM4 := hide ((unhide HM2).below x34 (Nat.le_refl _))
      have HA4 := hide (bkh_on (unhide HG2) x34)
      have HG4 := hide g4
      clear x3 x4 x34 g4 HSu HD2 HM2 HG2
      go_wp2_with fail
      generalize hg8 : y3.heap.size = g8 at *
      clear hg8
      generalize y3.alloc (.cells #[.int .i64 zb, .int .i64 zr, .int .i64 zu, .int .i64 ze, .string zh, .string zt] 27) = y4 at *
      refine (unhide HNi _ (unhide HD4)).mono ?_
      rintro y y5 ⟨rfl, x5⟩
      have x6 := (Below.refl y5.heap.size y5).alloc (Nat.le_refl _) (.cells #[.int .i64 nb, .int .i64 nr, .int .i64 nu, .int .i64 ne, .string nh, .string nt] 27)
      have g6 := push_get y5 (.cells #[.int .i64 nb, .int .i64 nr, .int .i64 nu, .int .i64 ne, .string nh, .string nt] 27)
      have x56 := x5.trans (x6.mono x5.size)
      have d6 := (unhide HD4).trans (x56.mono (unhide HD4).size)
      have m6 := (unhide HM4).below x5 (Nat.le_refl _)
      have a5 := bkh_on (unhide HA4) x5
      have b5 := bkh_on (unhide HG4) x5
      have d5 := (unhide HD4).trans (x5.mono (unhide HD4).size)
      obtain ⟨gM, hAM, hMz, hMc⟩ : ∃ gM, (ls = [] ∨ aM = some ⟨gM, 0, none⟩) ∧ gM < y5.heap.size ∧ ∀ i, i < ls.length → ∀ j, j < 6 → y5.cell? ⟨gM, i * 6 + j, none⟩ = (weC (ls.getD i []))[j]? := by
        rcases m6 with h | ⟨g, e, hg, hc⟩
        · exact ⟨g7, Or.inl h, bkp_lt a5, fun i hi => by rw [h] at hi; simp at hi⟩
        · exact ⟨g, Or.inr e, hg, hc⟩
      have HS6 : Hid (WpS w gM ls g7 g8 y5.heap.size #[.int .i64 zb, .int .i64 zr, .int .i64 zu, .int .i64 ze, .string zh, .string zt] ls.length (y5.alloc (.cells #[.int .i64 nb, .int .i64 nr, .int .i64 nu, .int .i64 ne, .string nh, .string nt] 27))) := hide ⟨d6, fun i hi j hj => (x6.cell (p := ⟨gM, i * 6 + j, none⟩) hMz).trans (hMc i hi j hj), Nat.lt_of_lt_of_le hMz x6.size, bkh_on a5 x6, bkh_on b5 x6, by rw [unhide HE0]; exact g6, by have := bkp_lt a5; omega, by have := bkp_lt a5; omega, by have := bkp_lt b5; omega, d5.size⟩
      have HAM := hide hAM
      clear x5 x6 x56 d6 m6 a5 b5 d5 g6 hMz hMc hAM HNi HD4 HM4 HA4 HG4 HE0
      have hwl : wrap64 ((ls.length : Int) - 1) = (ls.length : Int) - 1 := by unfold wrap64; omega
      go_wp2_with fail
      clear hwl
      generalize hg10 : y5.heap.size = g10 at *
      clear hg10
      generalize y5.alloc (.cells #[.int .i64 nb, .int .i64 nr, .int .i64 nu, .int .i64 ne, .string nh, .string nt] 27) = y6 at *
      go_loopw [11, 12, 13] (fun v11 v12 v13 wx => ∃ k : Nat, v11 = .int .i64 ((k : Int) - 1) ∧ k ≤ ls.length ∧ (∃ z, v12 = z) ∧ (∃ z, v13 = z) ∧ Hid (WpS w gM ls g7 g8 g10 #[.int .i64 zb, .int .i64 zr, .int .i64 zu, .int .i64 ze, .string zh, .string zt] k wx)) (fun v11 _ _ _ => (intOf v11 + 1).toNat)
      case atStart => exact ⟨ls.length, rfl, Nat.le_refl _, ⟨_, rfl⟩, ⟨_, rfl⟩, HS6⟩
      case round =>
        clear HS6
        obtain ⟨kk, rfl, hk, ⟨z1, rfl⟩, ⟨z2, rfl⟩, HI⟩ := hrel
        rcases kk with _ | k
        · have hv : (((0 : Nat) : Int) - 1) = -1 := by omega
          rw [hv]
          clear hv
          have S := unhide HI
          have hc := S.c
          rw [unhide HZ0] at hc
          have HWs : Hid (WsAt wr aM ls) := hide (by
            rcases unhide HAM with h | h
            · exact Or.inl h
            · exact Or.inr ⟨gM, h, S.mz, S.m⟩)
          have HH := unhide HHv wr (unhide HWs) S.d
          have hd := S.d
          have ha := S.a
          have hb := S.b
          clear S HI HWs HHv
          go_wp2_with fail
          refine HH.mono ?_
          rintro y q1 ⟨rfl, x1⟩
          have x2 := (Below.refl q1.heap.size q1).alloc (Nat.le_refl _) (.cells #[.int .i64 zb, .int .i64 zr, .int .i64 zu, .int .i64 ze, .string zh, .string zt] 27)
          have g2 := push_get q1 (.cells #[.int .i64 zb, .int .i64 zr, .int .i64 zu, .int .i64 ze, .string zh, .string zt] 27)
          have x12 := x1.trans (x2.mono x1.size)
          have HD2 := hide (hd.trans (x12.mono hd.size))
          obtain ⟨p0, p1, p2, p3, p4, p5, _⟩ := cells6 (bkh_on ha x12)
          obtain ⟨q0, q1', q2, q3, q4, q5, _⟩ := cells6 (bkh_on hb x12)
          obtain ⟨r0, r1, r2, r3, r4, r5, _⟩ := cells6 (bkh_on hc x12)
          obtain ⟨s0, s1, s2, s3, s4, s5, _⟩ := cells6 g2
          clear x1 x2 x12 g2 ha hb hc hd HH
          go_wp2_with fail
          go_ret
          exact ⟨rfl, unhide HD2⟩
        · have hv : (((k + 1 : Nat) : Int) - 1) = (k : Int) := by omega
          rw [hv]
          clear hv
          have t1 : decide ((k : Int) ≥ 0) = true := decide_eq_true (by omega)
          have t1' : decide ((0 : Int) ≤ (k : Int)) = true := decide_eq_true (by omega)
          have hkl : k < ls.length := by omega
          obtain rfl : aM = some ⟨gM, 0, none⟩ := by
            rcases unhide HAM with h | h
            · rw [h] at hkl; simp at hkl
            · exact h
          have hdr : (ls.drop k).flatten = ls.getD k [] ++ (ls.drop (k + 1)).flatten := by
            rw [List.drop_eq_getElem_cons hkl, List.flatten_cons, List.getD_eq_getElem?_getD, List.getElem?_eq_getElem hkl]; rfl
          have i1 : ∀ x ∈ ls.getD k [], 0 ≤ x ∧ x ≤ 255 := unhide HIN _ (by rw [List.getD_eq_getElem?_getD, List.getElem?_eq_getElem hkl]; exact List.getElem_mem hkl)
          have i2 : ∀ x ∈ (ls.drop (k + 1)).flatten, 0 ≤ x ∧ x ≤ 255 := fun x hx => by
            obtain ⟨q, hq, hx2⟩ := List.mem_flatten.1 hx
            exact unhide HIN q (List.mem_of_mem_drop hq) x hx2
          have hsum : (ls.getD k []).length + (ls.drop (k + 1)).flatten.length ≤ 268435456 := by
            have h5 : ls.flatten = (ls.take k).flatten ++ (ls.drop k).flatten := by rw [← List.flatten_append, List.take_append_drop]
            have h6 : ls.flatten.length ≤ 268435456 := by rw [flat_len]; exact unhide HFL
            rw [h5, List.length_append, hdr, List.length_append] at h6
            omega
          have hJ := fun (X : World) (h : Below w.heap.size w X) => Join_at (ofL (ls.getD k [])) (ofL (ls.drop (k + 1)).flatten) X (unhide HWW X h) (byw_of i1) (byw_of i2)
          rw [join_of i1 i2 hsum, ← hdr] at hJ
          dsimp only at hJ
          simp only [weq] at hJ
          have HJ := hide hJ
          have HCY := hide (wcq (ls.drop (k + 1)).flatten)
          have HCJ := hide (wcq (ls.drop k).flatten)
          have HX0 : Hid (∀ X : World, WpS w gM ls g7 g8 g10 #[.int .i64 zb, .int .i64 zr, .int .i64 zu, .int .i64 ze, .string zh, .string zt] (k + 1) X → (X.cell? ⟨gM, k * 6, none⟩ = some (.int .i64 (szL (ls.getD k [])).b) ∧ X.cell? ⟨gM, k * 6 + 1, none⟩ = some (.int .i64 (szL (ls.getD k [])).r) ∧ X.cell? ⟨gM, k * 6 + 2, none⟩ = some (.int .i64 (szL (ls.getD k [])).u) ∧ X.cell? ⟨gM, k * 6 + 3, none⟩ = some (.int .i64 (szL (ls.getD k [])).e) ∧ X.cell? ⟨gM, k * 6 + 4, none⟩ = some (.string (strOfNums (List.take 3 (ls.getD k [])))) ∧ X.cell? ⟨gM, k * 6 + 5, none⟩ = some (.string (strOfNums (tail3 (ls.getD k [])))))) := hide fun X h => ⟨h.m k hkl 0 (by decide), h.m k hkl 1 (by decide), h.m k hkl 2 (by decide), h.m k hkl 3 (by decide), h.m k hkl 4 (by decide), h.m k hkl 5 (by decide)⟩
          clear hJ i1 i2 hsum hdr
          generalize (szL (ls.getD k [])).b = xb at *
          generalize (szL (ls.getD k [])).r = xr at *
          generalize (szL (ls.getD k [])).u = xu at *
          generalize (szL (ls.getD k [])).e = xe at *
          generalize strOfNums (List.take 3 (ls.getD k [])) = xh at *
          generalize strOfNums (tail3 (ls.getD k [])) = xt at *
          generalize (szL (List.drop (k + 1) ls).flatten).b = yb at *
          generalize (szL (List.drop (k + 1) ls).flatten).r = yr at *
          generalize (szL (List.drop (k + 1) ls).flatten).u = yu at *
          generalize (szL (List.drop (k + 1) ls).flatten).e = ye at *
          generalize strOfNums (List.take 3 (List.drop (k + 1) ls).flatten) = yh at *
          generalize strOfNums (tail3 (List.drop (k + 1) ls).flatten) = yt at *
          generalize (szL (List.drop k ls).flatten).b = jb at *
          generalize (szL (List.drop k ls).flatten).r = jr at *
          generalize (szL (List.drop k ls).flatten).u = ju at *
          generalize (szL (List.drop k ls).flatten).e = je at *
          generalize strOfNums (List.take 3 (List.drop k ls).flatten) = jh at *
          generalize strOfNums (tail3 (List.drop k ls).flatten) = jt at *
          have HSW : Hid (∀ X : World, WpS w gM ls g7 g8 g10 #[.int .i64 zb, .int .i64 zr, .int .i64 zu, .int .i64 ze, .string zh, .string zt] (k + 1) X → (fun w' : World => (w'.cell? ⟨gM, k * 6, none⟩ = some (.int .i64 xb) ∧ w'.cell? ⟨gM, k * 6 + 1, none⟩ = some (.int .i64 xr) ∧ w'.cell? ⟨gM, k * 6 + 2, none⟩ = some (.int .i64 xu) ∧ w'.cell? ⟨gM, k * 6 + 3, none⟩ = some (.int .i64 xe) ∧ w'.cell? ⟨gM, k * 6 + 4, none⟩ = some (.string xh) ∧ w'.cell? ⟨gM, k * 6 + 5, none⟩ = some (.string xt)) ∧ (w'.cell? ⟨g10, 0, none⟩ = some (.int .i64 yb) ∧ w'.cell? ⟨g10, 1, none⟩ = some (.int .i64 yr) ∧ w'.cell? ⟨g10, 2, none⟩ = some (.int .i64 yu) ∧ w'.cell? ⟨g10, 3, none⟩ = some (.int .i64 ye) ∧ w'.cell? ⟨g10, 4, none⟩ = some (.string yh) ∧ w'.cell? ⟨g10, 5, none⟩ = some (.string yt))) X) := hide fun X h => by
            have hc := h.c
            rw [unhide HCY] at hc
            obtain ⟨p0, p1, p2, p3, p4, p5, _⟩ := cells6 hc
            exact ⟨unhide HX0 X h, p0, p1, p2, p3, p4, p5⟩
          clear HX0
          go_wp2_with fail
          clear t1 t1'
          go_cut [12, 13] (fun p12 e wz => e = .int .i64 0 ∧ ∃ g12, p12 = .pointer (some ⟨g12, 0, none⟩) ∧ Hid (WpS w gM ls g7 g8 g10 #[.int .i64 zb, .int .i64 zr, .int .i64 zu, .int .i64 ze, .string zh, .string zt] (k + 1) wz ∧ wz.heap[g12]? = some (.cells #[.int .i64 jb, .int .i64 jr, .int .i64 ju, .int .i64 je, .string jh, .string jt] 27 (0, 0))) ∧ Hid (g12 ≠ g10 ∧ g12 ≠ g7 ∧ g12 ≠ g8 ∧ g12 ≠ gM ∧ w.heap.size ≤ g12))
          case first =>
            have S0 := (unhide HI).on (drewP wr)
            refine regionL (S := fun w' => (w'.cell? ⟨gM, k * 6, none⟩ = some (.int .i64 xb) ∧ w'.cell? ⟨gM, k * 6 + 1, none⟩ = some (.int .i64 xr) ∧ w'.cell? ⟨gM, k * 6 + 2, none⟩ = some (.int .i64 xu) ∧ w'.cell? ⟨gM, k * 6 + 3, none⟩ = some (.int .i64 xe) ∧ w'.cell? ⟨gM, k * 6 + 4, none⟩ = some (.string xh) ∧ w'.cell? ⟨gM, k * 6 + 5, none⟩ = some (.string xt)) ∧ (w'.cell? ⟨g10, 0, none⟩ = some (.int .i64 yb) ∧ w'.cell? ⟨g10, 1, none⟩ = some (.int .i64 yr) ∧ w'.cell? ⟨g10, 2, none⟩ = some (.int .i64 yu) ∧ w'.cell? ⟨g10, 3, none⟩ = some (.int .i64 ye) ∧ w'.cell? ⟨g10, 4, none⟩ = some (.string yh) ∧ w'.cell? ⟨g10, 5, none⟩ = some (.string yt))) (fun _ => false) (by kernel_rfl) ?_
            clear HI
            generalize wr.drew = y0 at *
            refine anyL_take (i := 0) (v := ?vq0) rfl (by kernel_rfl) (by kernel_rfl) (by kernel_rfl) (by kernel_rfl) (fun _ _ _ h => h) (Or.inl ⟨by rfl, ?hq0⟩) (unhide HSW _ S0) ?_
            case hq0 => (intro w hSw; (try dsimp only at hSw); go_simp) <;> with_reducible rfl
            simp only [Act.put, List.getElem_toArray, List.getElem_cons_zero, List.setIfInBounds_toArray, List.set_cons_zero, List.set_cons_succ]
            refine anyL_take (i := 1) (v := ?vq1) rfl (by kernel_rfl) (by kernel_rfl) (by kernel_rfl) (by kernel_rfl) (fun _ _ _ h => h) (Or.inl ⟨by rfl, ?hq1⟩) (unhide HSW _ S0) ?_
            case hq1 => (intro w hSw; (try dsimp only at hSw); go_simp) <;> with_reducible rfl
            simp only [Act.put, List.getElem_toArray, List.getElem_cons_zero, List.getElem_cons_succ, List.setIfInBounds_toArray, List.set_cons_zero, List.set_cons_succ]
            refine anyL_take (i := 2) (v := ?vq2) rfl (by kernel_rfl) (by kernel_rfl) (by kernel_rfl) (by kernel_rfl) (fun _ _ _ h => h) (Or.inl ⟨by rfl, ?hq2⟩) (unhide HSW _ S0) ?_
            case hq2 => (intro w hSw; (try dsimp only at hSw); go_simp) <;> with_reducible rfl
            simp only [Act.put, List.getElem_toArray, List.getElem_cons_zero, List.getElem_cons_succ, List.setIfInBounds_toArray, List.set_cons_zero, List.set_cons_succ]
            refine anyL_take (i := 3) (v := ?vq3) rfl (by kernel_rfl) (by kernel_rfl) (by kernel_rfl) (by kernel_rfl) (fun _ _ _ h => h) (Or.inl ⟨by rfl, ?hq3⟩) (unhide HSW _ S0) ?_
            case hq3 => (intro w hSw; (try dsimp only at hSw); go_simp) <;> with_reducible rfl
            simp only [Act.put, List.getElem_toArray, List.getElem_cons_zero, List.getElem_cons_succ, List.setIfInBounds_toArray, List.set_cons_zero, List.set_cons_succ]
            refine anyL_take (i := 4) (v := ?vq4) rfl (by kernel_rfl) (by kernel_rfl) (by kernel_rfl) (by kernel_rfl) (fun _ _ _ h => h) (Or.inl ⟨by rfl, ?hq4⟩) (unhide HSW _ S0) ?_
            case hq4 => (intro w hSw; (try dsimp only at hSw); go_simp) <;> with_reducible rfl
            simp only [Act.put, List.getElem_toArray, List.getElem_cons_zero, List.getElem_cons_succ, List.setIfInBounds_toArray, List.set_cons_zero, List.set_cons_succ]
            refine anyL_ready (rs := [5, 9]) (by kernel_rfl) (by simp) ?_
            refine AllL.cons rfl (fun K hK => ?_) (AllL.cons rfl (fun K hK => ?_) AllL.nil)
            · go_simp
              refine (unhide HJ _ S0.d).mono ?_
              rintro e y1 ⟨rfl, x1⟩
              have S1 := S0.on x1
              refine unhide hK _ _ (fun _ => unhide HSW _ S1) ?_
              clear hK K x1
              refine anyL_take (i := 6) (v := ?vq5) rfl (by kernel_rfl) (by kernel_rfl) (by kernel_rfl) (by kernel_rfl) (fun _ _ _ h => h) (Or.inl ⟨by rfl, ?hq5⟩) (unhide HSW _ S1) ?_
              case hq5 => (intro w hSw; (try dsimp only at hSw); go_simp) <;> with_reducible rfl
              simp only [Act.put, List.getElem_toArray, List.getElem_cons_zero, List.getElem_cons_succ, List.setIfInBounds_toArray, List.set_cons_zero, List.set_cons_succ]
              refine anyL_take (i := 7) (v := ?vq6) rfl (by kernel_rfl) (by kernel_rfl) (by kernel_rfl) (by kernel_rfl) (fun _ _ _ h => h) (Or.inl ⟨by rfl, ?hq6⟩) (unhide HSW _ S1) ?_
              case hq6 => (intro w hSw; (try dsimp only at hSw); go_simp) <;> with_reducible rfl
              simp only [Act.put, List.getElem_toArray, List.getElem_cons_zero, List.getElem_cons_succ, List.setIfInBounds_toArray, List.set_cons_zero, List.set_cons_succ]
              refine anyL_take (i := 8) (v := ?vq7) rfl (by kernel_rfl) (by kernel_rfl) (by kernel_rfl) (by kernel_rfl) (fun _ _ _ h => h) (Or.inl ⟨by rfl, ?hq7⟩) (unhide HSW _ S1) ?_
              case hq7 => (intro w hSw; (try dsimp only at hSw); go_simp) <;> with_reducible rfl
              simp only [Act.put, List.getElem_toArray, List.getElem_cons_zero, List.getElem_cons_succ, List.setIfInBounds_toArray, List.set_cons_zero, List.set_cons_succ]
              refine anyL_ready (rs := [9]) (by kernel_rfl) (by simp) ?_
              refine AllL.cons rfl (fun K hK => ?_) AllL.nil
              go_simp
              have x2 := (Below.refl y1.heap.size y1).alloc (Nat.le_refl _) (.cells #[.int .i64 0, .int .i64 0, .int .i64 0, .int .i64 0, .string ⟨#[]⟩, .string ⟨#[]⟩] 27)
              have k2n := push_get y1 (.cells #[.int .i64 0, .int .i64 0, .int .i64 0, .int .i64 0, .string ⟨#[]⟩, .string ⟨#[]⟩] 27)
              have hne : y1.heap.size ≠ g10 ∧ y1.heap.size ≠ g7 ∧ y1.heap.size ≠ g8 ∧ y1.heap.size ≠ gM ∧ w.heap.size ≤ y1.heap.size := S1.fresh
              have S2 := S1.on x2
              refine unhide hK _ _ (fun _ => unhide HSW _ S2) ?_
              clear hK K x2
              generalize hgg : y1.heap.size = g12 at *
              clear hgg
              generalize y1.alloc (.cells #[.int .i64 0, .int .i64 0, .int .i64 0, .int .i64 0, .string ⟨#[]⟩, .string ⟨#[]⟩] 27) = y2 at *
              refine anyL_ready (rs := [10]) (by kernel_rfl) (by simp) ?_
              refine AllL.cons rfl (fun K hK => ?_) AllL.nil
              obtain ⟨p0, p1, p2, p3, p4, p5, pf⟩ := cells6 k2n
              have f0 := pf 0
              have f1 := pf 1
              have f2 := pf 2
              have f3 := pf 3
              have f4 := pf 4
              have f5 := pf 5
              clear pf
              have S3 := S2.put hne (.int .i64 jb) (.int .i64 jr) (.int .i64 ju) (.int .i64 je) (.string jh) (.string jt)
              have k3 := box6_all k2n (.int .i64 jb) (.int .i64 jr) (.int .i64 ju) (.int .i64 je) (.string jh) (.string jt)
              go_simp
              refine unhide hK _ _ (fun _ => unhide HSW _ S3) ?_
              clear hK K p0 p1 p2 p3 p4 p5 f0 f1 f2 f3 f4 f5
              generalize (((((y2.setCell ⟨g12, 0, none⟩ (.int .i64 jb)).setCell ⟨g12, 1, none⟩ (.int .i64 jr)).setCell ⟨g12, 2, none⟩ (.int .i64 ju)).setCell ⟨g12, 3, none⟩ (.int .i64 je)).setCell ⟨g12, 4, none⟩ (.string jh)).setCell ⟨g12, 5, none⟩ (.string jt) = y3 at *
              refine anyL_take (i := 11) (v := ?vq8) rfl (by kernel_rfl) (by kernel_rfl) (by kernel_rfl) (by kernel_rfl) (fun _ _ _ h => h) (Or.inl ⟨by rfl, ?hq8⟩) (unhide HSW _ S3) ?_
              case hq8 => (intro w hSw; (try dsimp only at hSw); go_simp) <;> with_reducible rfl
              simp only [Act.put, List.getElem_toArray, List.getElem_cons_zero, List.getElem_cons_succ, List.setIfInBounds_toArray, List.set_cons_zero, List.set_cons_succ]
              refine anyL_done (by kernel_rfl) ?_ _
              go_wp2_with fail
              go_meet
              exact ⟨rfl, g12, rfl, hide ⟨S3, k3⟩, hide hne⟩
            · go_simp
              have x4 := (Below.refl y0.heap.size y0).alloc (Nat.le_refl _) (.cells #[.int .i64 0, .int .i64 0, .int .i64 0, .int .i64 0, .string ⟨#[]⟩, .string ⟨#[]⟩] 27)
              have k4n := push_get y0 (.cells #[.int .i64 0, .int .i64 0, .int .i64 0, .int .i64 0, .string ⟨#[]⟩, .string ⟨#[]⟩] 27)
              have hne : y0.heap.size ≠ g10 ∧ y0.heap.size ≠ g7 ∧ y0.heap.size ≠ g8 ∧ y0.heap.size ≠ gM ∧ w.heap.size ≤ y0.heap.size := S0.fresh
              have S4 := S0.on x4
              refine unhide hK _ _ (fun _ => unhide HSW _ S4) ?_
              clear hK K x4
              generalize hgg : y0.heap.size = g12 at *
              clear hgg
              generalize y0.alloc (.cells #[.int .i64 0, .int .i64 0, .int .i64 0, .int .i64 0, .string ⟨#[]⟩, .string ⟨#[]⟩] 27) = y4 at *
              refine anyL_ready (rs := [5]) (by kernel_rfl) (by simp) ?_
              refine AllL.cons rfl (fun K hK => ?_) AllL.nil
              go_simp
              refine (unhide HJ _ S4.d).mono ?_
              rintro e y5 ⟨rfl, x5⟩
              have S5 := S4.on x5
              have k5 := bkh_on k4n x5
              refine unhide hK _ _ (fun _ => unhide HSW _ S5) ?_
              clear hK K x5
              refine anyL_take (i := 6) (v := ?vq9) rfl (by kernel_rfl) (by kernel_rfl) (by kernel_rfl) (by kernel_rfl) (fun _ _ _ h => h) (Or.inl ⟨by rfl, ?hq9⟩) (unhide HSW _ S5) ?_
              case hq9 => (intro w hSw; (try dsimp only at hSw); go_simp) <;> with_reducible rfl
              simp only [Act.put, List.getElem_toArray, List.getElem_cons_zero, List.getElem_cons_succ, List.setIfInBounds_toArray, List.set_cons_zero, List.set_cons_succ]
              refine anyL_take (i := 7) (v := ?vq10) rfl (by kernel_rfl) (by kernel_rfl) (by kernel_rfl) (by kernel_rfl) (fun _ _ _ h => h) (Or.inl ⟨by rfl, ?hq10⟩) (unhide HSW _ S5) ?_
              case hq10 => (intro w hSw; (try dsimp only at hSw); go_simp) <;> with_reducible rfl
              simp only [Act.put, List.getElem_toArray, List.getElem_cons_zero, List.getElem_cons_succ, List.setIfInBounds_toArray, List.set_cons_zero, List.set_cons_succ]
              refine anyL_take (i := 8) (v := ?vq11) rfl (by kernel_rfl) (by kernel_rfl) (by kernel_rfl) (by kernel_rfl) (fun _ _ _ h => h) (Or.inl ⟨by rfl, ?hq11⟩) (unhide HSW _ S5) ?_
              case hq11 => (intro w hSw; (try dsimp only at hSw); go_simp) <;> with_reducible rfl
              simp only [Act.put, List.getElem_toArray, List.getElem_cons_zero, List.getElem_cons_succ, List.setIfInBounds_toArray, List.set_cons_zero, List.set_cons_succ]
              refine anyL_ready (rs := [10]) (by kernel_rfl) (by simp) ?_
              refine AllL.cons rfl (fun K hK => ?_) AllL.nil
              obtain ⟨p0, p1, p2, p3, p4, p5, pf⟩ := cells6 k5
              have f0 := pf 0
              have f1 := pf 1
              have f2 := pf 2
              have f3 := pf 3
              have f4 := pf 4
              have f5 := pf 5
              clear pf
              have S6 := S5.put hne (.int .i64 jb) (.int .i64 jr) (.int .i64 ju) (.int .i64 je) (.string jh) (.string jt)
              have k6 := box6_all k5 (.int .i64 jb) (.int .i64 jr) (.int .i64 ju) (.int .i64 je) (.string jh) (.string jt)
              go_simp
              refine unhide hK _ _ (fun _ => unhide HSW _ S6) ?_
              clear hK K p0 p1 p2 p3 p4 p5 f0 f1 f2 f3 f4 f5
              generalize (((((y5.setCell ⟨g12, 0, none⟩ (.int .i64 jb)).setCell ⟨g12, 1, none⟩ (.int .i64 jr)).setCell ⟨g12, 2, none⟩ (.int .i64 ju)).setCell ⟨g12, 3, none⟩ (.int .i64 je)).setCell ⟨g12, 4, none⟩ (.string jh)).setCell ⟨g12, 5, none⟩ (.string jt) = y6 at *
              refine anyL_take (i := 11) (v := ?vq12) rfl (by kernel_rfl) (by kernel_rfl) (by kernel_rfl) (by kernel_rfl) (fun _ _ _ h => h) (Or.inl ⟨by rfl, ?hq12⟩) (unhide HSW _ S6) ?_
              case hq12 => (intro w hSw; (try dsimp only at hSw); go_simp) <;> with_reducible rfl
              simp only [Act.put, List.getElem_toArray, List.getElem_cons_zero, List.getElem_cons_succ, List.setIfInBounds_toArray, List.set_cons_zero, List.set_cons_succ]
              refine anyL_done (by kernel_rfl) ?_ _
              go_wp2_with fail
              go_meet
              exact ⟨rfl, g12, rfl, hide ⟨S6, k6⟩, hide hne⟩
          case rest =>
            obtain ⟨rfl, g12, rfl, HK, HNE⟩ := hcut
            clear HI
            have hc := (unhide HK).1.c
            rw [unhide HCY] at hc
            obtain ⟨p0, p1, p2, p3, p4, p5, pf⟩ := cells6 hc
            have f0 := pf 0
            have f1 := pf 1
            have f2 := pf 2
            have f3 := pf 3
            have f4 := pf 4
            have f5 := pf 5
            obtain ⟨q0, q1, q2, q3, q4, q5, _⟩ := cells6 (unhide HK).2
            have HS2 := hide ((unhide HK).1.next (k' := k) (unhide HCY) (unhide HCJ))
            have hwk : wrap64 ((k : Int) - 1) = (k : Int) - 1 := by unfold wrap64; omega
            clear pf hc HK HNE HSW HJ HCY HCJ
            go_wp2_with fail
            go_roundw
            case rel => exact ⟨k, by first | rfl | rw [hwk], by omega, ⟨_, rfl⟩, ⟨_, rfl⟩, HS2⟩
            case measure => (simp only [intOf]; (try rw [hwk]); omega)

end Go.Proofs.YtlhobpjiclcpiaaDoor
