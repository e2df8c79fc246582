/- Layer 9's scripts: what a law's loop over the book's ropes keeps. · RopeOwn: what stays where bytes are written over; the law's state. · RopeOwn's walk. · RopeOwn: for every input the law returns true and every argument reads afterwards as it read before; conditions: the table of classes holds at the call what the program's text lays (the card ties it to that text). -/
import Derived.Test.YtpfjfgggacpdfaaDoorRpD
import Derived.Test.YtpfjfgggacpdfaaDoorLayL
import Derived.Below
import Derived.ChangeOld
import Derived.ShutString

section
namespace Go.Proofs.YtpfjfgggacpdfaaDoor
open Go.ChangeShapes Go.WideShapes Go.ChangeAt Go.RowKit
attribute [local go_sem] Oper.semAt_some

theorem Bk.low {X : World} {B gB : Nat} {gs : List Nat} {os : List (Option Nd)} (h : Bk X B gB gs os) : Bk X 0 gB gs os := by
  obtain ⟨vr, vt, h1, h2, h3⟩ := h.c
  refine ⟨⟨vr, vt, h1, ⟨h2.1, ?_⟩, ⟨h3.1, ?_⟩⟩, h.n, h.r⟩
  · rcases h2.2 with h | ⟨g, cap, cur, e, _, h4⟩
    · exact Or.inl h
    · exact Or.inr ⟨g, cap, cur, e, Nat.zero_le _, h4⟩
  · rcases h3.2 with h | ⟨g, cap, cur, e, _, h4⟩
    · exact Or.inl h
    · exact Or.inr ⟨g, cap, cur, e, Nat.zero_le _, h4⟩
/-- what the law's loop keeps -/
structure SaI (w : World) (gT : Nat) (gs : List Nat) (os : List (Option Nd)) (X : World) : Prop where
  k : Bk X 0 gT gs os
  s : ∀ i, i < gs.length → (txtO (os.getD i none)).length ≤ 268435456
  b : Below w.heap.size w X

end Go.Proofs.YtpfjfgggacpdfaaDoor
end

section
namespace Go.Proofs.YtpfjfgggacpdfaaDoor
open Go.ChangeShapes Go.WideShapes Go.ChangeAt Go.RowKit
attribute [local go_sem] Oper.semAt_some

/-- blocks that hold no bytes stay -/
def Nu (X Y : World) : Prop := ∀ (k : Nat) (cs : Array Value) (t : TypeId) (m : Nat × Nat), X.heap[k]? = some (.cells cs t m) → t ≠ 5 → Y.heap[k]? = X.heap[k]?
theorem Nu.nt {X Y : World} (h : Nu X Y) : Nt X Y := fun k cs t m hk ht => h k cs t m hk (by rintro rfl; exact absurd ht (by decide))
theorem Nu.grown {X Y : World} {G : Option Nat} (h : X.grownBy Y G) (hG : ∀ g, G = some g → ∃ cs m, X.heap[g]? = some (.cells cs 5 m)) : Nu X Y := fun k cs t m hk ht => by
  have hl : k < X.heap.size := (Array.getElem?_eq_some_iff.1 hk).1
  refine h.block k hl fun e => ?_
  obtain ⟨cs', m', h'⟩ := hG k e.symm
  rw [h'] at hk
  cases hk
  exact ht rfl
theorem Bk.nu {X Y : World} {B gB : Nat} {gs : List Nat} {os : List (Option Nd)} (h : Bk X B gB gs os) (hn : Nu X Y) : Bk Y B gB gs os := by
  obtain ⟨vr, vt, h1, h2, h3⟩ := h.c
  refine ⟨⟨vr, vt, (hn _ _ _ _ h1 (by decide)).trans h1, row_onB h2 (fun G hG => ?_), row_onB h3 (fun G hG => ?_)⟩, h.n, fun i hi => ⟨(h.r i hi).1.nt hn.nt, (h.r i hi).2⟩⟩
  · obtain ⟨_, cur, hc⟩ := row_block h2 hG
    exact hn _ _ _ _ hc (by decide)
  · obtain ⟨_, cur, hc⟩ := row_block h3 hG
    exact hn _ _ _ _ hc (by decide)
theorem Own.block {X : World} {B : Nat} {v : Value} {l : List Int} (h : Own X B v l) {g : Nat} (hg : v.ownBlock = some g) : B ≤ g ∧ ∃ cs m, X.heap[g]? = some (.cells cs 5 m) := by
  obtain ⟨h1, cur, h2⟩ := row_block h hg
  exact ⟨h1, cur, _, h2⟩
/-- the law's state: the book, two ropes, rows of bytes that stay -/
structure OwS (w : World) (gT : Nat) (gs : List Nat) (os : List (Option Nd)) (g1 : Nat) (o1 : Option Nd) (g2 : Nat) (o2 : Option Nd) (rs : List (Value × List Int)) (X : World) : Prop where
  k : Bk X 0 gT gs os
  s : ∀ i, i < gs.length → (txtO (os.getD i none)).length ≤ 268435456
  b : Below w.heap.size w X
  r1 : IsRo X g1 o1
  r2 : IsRo X g2 o2
  rows : ∀ p ∈ rs, Own X 0 p.1 p.2
theorem OwS.grow {w : World} {gT : Nat} {gs : List Nat} {os : List (Option Nd)} {g1 : Nat} {o1 : Option Nd} {g2 : Nat} {o2 : Option Nd} {rs : List (Value × List Int)} {X Y : World} {G : Option Nat} (h : OwS w gT gs os g1 o1 g2 o2 rs X) (hg : X.grownBy Y G)
    (hG : ∀ g, G = some g → (∃ cs m, X.heap[g]? = some (.cells cs 5 m)) ∧ w.heap.size ≤ g ∧ ∀ p ∈ rs, p.1.ownBlock ≠ some g) : OwS w gT gs os g1 o1 g2 o2 rs Y := by
  have hn := Nu.grown hg (fun g e => (hG g e).1)
  refine ⟨h.k.nu hn, h.s, h.b.grown hg h.b.size (fun k e => (hG k e).2.1), h.r1.nt hn.nt, h.r2.nt hn.nt, fun p hp => (h.rows p hp).kept hg ?_⟩
  cases hG2 : G with
  | none =>
    by_cases e : p.1.ownBlock = none
    · exact Or.inl e
    · exact Or.inr e
  | some g => exact Or.inr ((hG g hG2).2.2 p hp)
theorem OwS.on {w : World} {gT : Nat} {gs : List Nat} {os : List (Option Nd)} {g1 : Nat} {o1 : Option Nd} {g2 : Nat} {o2 : Option Nd} {rs : List (Value × List Int)} {X Y : World} (h : OwS w gT gs os g1 o1 g2 o2 rs X) (hb : Below X.heap.size X Y) : OwS w gT gs os g1 o1 g2 o2 rs Y :=
  ⟨h.k.on hb, h.s, h.b.trans (hb.mono h.b.size), h.r1.on hb, h.r2.on hb, fun p hp => (h.rows p hp).below hb⟩
theorem OwS.set {w : World} {gT : Nat} {gs : List Nat} {os : List (Option Nd)} {g1 : Nat} {o1 : Option Nd} {g2 : Nat} {o2 : Option Nd} {rs : List (Value × List Int)} {X : World} (h : OwS w gT gs os g1 o1 g2 o2 rs X) {B g n cap : Nat} {l : List Int} (ho : Own X B (.slice (some ⟨g, 0, none⟩) n cap) l) (hw : w.heap.size ≤ g) (hr : ∀ p ∈ rs, p.1.ownBlock ≠ some g) (i : Nat) (u : Value) : OwS w gT gs os g1 o1 g2 o2 rs (X.setCell ⟨g, i, none⟩ u) :=
  h.grow (grown_set X g i u) fun g' e => by
    cases e
    exact ⟨(ho.block rfl).2, hw, hr⟩
/-- one byte more behind a row of one's own -/
theorem own_push {W : World} {v : Value} {l : List Int} (h : Own W 0 v l) (x : Int) (hx : 0 ≤ x ∧ x ≤ 255) (hn : l.length + 1 ≤ 268435456) : ∃ a n c W', (Builtin.append_ #[23, 23] 23 #[v, .slice (some ⟨W.heap.size, 0, none⟩) 1 1]).run Tryd.prog (W.alloc (.cells #[.int .u8 x] 5)) = .ok (.slice a n c) W' ∧ Own W' 0 (.slice a n c) (l ++ [x]) ∧ (W.alloc (.cells #[.int .u8 x] 5)).grownBy W' v.ownBlock ∧ ((Value.slice a n c).ownBlock = v.ownBlock ∨ (Value.slice a n c).ownBlock = some (W.alloc (.cells #[.int .u8 x] 5)).heap.size) := by
  have b0 := (Below.refl W.heap.size W).alloc (Nat.le_refl _) (.cells #[.int .u8 x] 5)
  have hB : IsB (W.alloc (.cells #[.int .u8 x] 5)) (some ⟨W.heap.size, 0, none⟩) 1 [x] := by
    refine IsB.of (fun i hi => ?_) (by simp) (by simp)
    obtain rfl : i = 0 := by simp at hi; omega
    refine ⟨?_, by simpa using hx⟩
    exact (Cb.new W 5 (.int .u8 x)).cell
  obtain ⟨v', W', h1, h2, _, h4, h5⟩ := appG 23 (h.below b0) (Nat.zero_le _) hB (by simpa using hn)
  obtain ⟨a, c, rfl⟩ := h2.len
  exact ⟨a, _, c, W', h1, h2, h4, h5⟩

end Go.Proofs.YtpfjfgggacpdfaaDoor
end

section
namespace Go.Proofs.YtpfjfgggacpdfaaDoor
open Go.ChangeShapes Go.WideShapes Go.ChangeAt Go.RowKit
attribute [local go_sem] Oper.semAt_some

theorem size_strO (l : List Int) : (strOfNums l).size = l.length := by simp [strOfNums, ByteArray.size]
theorem str_ab9 (l : List Int) : strOfNums (l ++ [65, 66]) = strOfNums l ++ ⟨#[65, 66]⟩ := by rw [← str_app9]; rfl
/-- the beginning of a row of one's own -/
theorem own_pre {W : World} {B : Nat} {g n c : Nat} {l m : List Int} (h : Own W B (.slice (some ⟨g, 0, none⟩) n c) (l ++ m)) (hl : ∀ x ∈ l ++ m, 0 ≤ x ∧ x ≤ 255) (hn : (l ++ m).length ≤ 140737488351232) : IsN W (some ⟨g, 0, none⟩) c l := by
  obtain ⟨a, c', e, hB⟩ := h.isB hl hn
  cases e
  have h2 := (h.lies hl).pre
  refine ⟨IsB.of h2 (by have := hB.1; rw [List.length_append] at this; omega) (by rw [List.length_append] at hn; omega), fun e => by cases e⟩
theorem half_wrap {n : Nat} (h : n ≤ 1048576) : wrap64 (Int.tdiv (n : Int) 2) = ((n / 2 : Nat) : Int) ∧ IntKind.i64.wrap (Int.tdiv (n : Int) 2) = ((n / 2 : Nat) : Int) ∧ Int.tdiv (n : Int) 2 = ((n / 2 : Nat) : Int) := by
  have e : Int.tdiv (n : Int) 2 = ((n / 2 : Nat) : Int) := by rw [Int.tdiv_eq_ediv_of_nonneg (by omega)]; omega
  rw [e]
  exact ⟨by unfold wrap64; omega, by rw [IntKind.wrap_i64]; omega, rfl⟩

set_option maxRecDepth 100000 in
set_option maxHeartbeats 8000000 in
theorem RopeOwn_any (a0 : Option Addr) (cap : Nat) (cs : List Ac) (a1 : Option Addr) (cap1 : Nat) (l : List Int) (w : World) (hA : IsAc w a0 cs) (hn : cs.length ≤ 2199023255488) (hB : IsN w a1 cap1 l) (hW : Wt w) :
    Calls Tryd.prog 3 #[.slice a0 cs.length cap, .slice a1 l.length cap1] w fun e w' => e = .returned (.bool true) ∧ Below w.heap.size w w' := by
  have HN := hide fun (X : World) (hx : Below w.heap.size w X) => hB.below hx (Nat.le_refl _)
  have HIN : Hid (∀ x ∈ l, 0 ≤ x ∧ x ≤ 255) := hide hB.1.2.2.2
  have HW := hide fun (X : World) (hx : Below w.heap.size w X) => hW.below hx
  have HA := hide fun (X : World) (hx : Below w.heap.size w X) => hA.on hx
  have HWk := hide (wakes9_at w hW)
  clear hW hA hB
  go_enter Tryd.func3, Tryd.ntmps3
  go_wp2_with fail
  refine (unhide HWk).mono ?_
  rintro y w1 ⟨rfl, x1⟩
  dsimp only
  have HPl := hide (play9_at a0 cap cs w1 (unhide HA w1 x1) (by omega) (unhide HW w1 x1))
  clear HWk
  go_wp2_with fail
  refine (unhide HPl).mono ?_
  rintro y w2 ⟨gB, gs, os, vr, vt, rfl, h2, c2, hs2, hgl, _, x2⟩
  dsimp only
  have h3 := h2.copy c2
  have hrf : (∃ a k c, vr = .slice a k c) ∧ ∃ a k c, vt = .slice a k c := by
    obtain ⟨vr', vt', d1, d2, d3⟩ := h2.c
    have e := c2.symm.trans d1
    cases e
    obtain ⟨a1, c1, e1⟩ := row_len9 d2
    obtain ⟨a3, c3, e3⟩ := row_len9 d3
    exact ⟨⟨a1, _, c1, e1⟩, ⟨a3, _, c3, e3⟩⟩
  obtain ⟨⟨ra, rl, rc, rfl⟩, ta, tl, tc, rfl⟩ := hrf
  have x3 := (Below.refl w2.heap.size w2).alloc (Nat.le_refl _) (.cells #[.slice ra rl rc, .slice ta tl tc] 28)
  have D2 := x1.trans (x2.mono x1.size)
  have D3 := D2.trans (x3.mono D2.size)
  clear HPl h2 c2 x1 x2 x3 D2
  go_upto_region 6 with fail
  generalize hw3 : w2.alloc (.cells #[.slice ra rl rc, .slice ta tl tc] 28) = w3 at *
  generalize w2.heap.size = gT at *
  clear hw3
  have i0 : SaI w gT gs os w3 := ⟨h3.low, hs2, D3⟩
  clear h3 D3
  by_cases hl : l.length ≤ 32768
  case neg =>
    have c1 : (32768 : Int) < (l.length : Int) := by omega
    have c2 : 32768 < l.length := by omega
    have HX := hide i0.b
    go_wp2_with fail
    refine bodyPost_ret (results_tmp rfl _ _ _) rfl ⟨rfl, unhide HX⟩
  have c1 : ¬ (32768 : Int) < (l.length : Int) := by omega
  have c2 : ¬ 32768 < l.length := by omega
  obtain ⟨v1, w4, r4, o4, x4⟩ := run_copy_own w3 a1 cap1 l 23 (unhide HN w3 i0.b).1
  have hsz3 : w3.heap.size ≤ w4.heap.size := x4.size
  obtain ⟨va, NN, vc, rfl⟩ : ∃ a k c, v1 = .slice a k c := by obtain ⟨a, c, h⟩ := o4.len; exact ⟨a, _, c, h⟩
  obtain ⟨v2, w5, r5, o5, x5⟩ := o4.push2 65 66 (by omega) hsz3
  obtain ⟨gf, cf, rfl, hgf, hgl, hcf⟩ := o5.form (by simp)
  have R4 := hide r4
  have R5 := hide r5
  have x35 := x4.trans x5
  have D5 := i0.b.trans (x35.mono i0.b.size)
  have S5 : SaI w gT gs os w5 := ⟨i0.k.on x35, i0.s, D5⟩
  have hll : (l ++ [65, 66]).length = l.length + 2 := by simp
  have hin2 : ∀ x ∈ l ++ [65, 66], 0 ≤ x ∧ x ≤ 255 := fun x hx => by
    rcases List.mem_append.1 hx with h | h
    · exact unhide HIN x h
    · simp at h; omega
  have N5 := own_pre o5 hin2 (by rw [hll]; omega)
  rw [hll] at o5 R5 hcf
  have HGF : Hid (w.heap.size ≤ gf ∧ gf < w5.heap.size) := hide ⟨Nat.le_trans i0.b.size hgf, hgl⟩
  have HNw := hide (New9_at (some ⟨gf, 0, none⟩) cf l w5 N5 (by omega) (unhide HW w5 D5))
  have HO5 := hide o5
  clear r4 r5 o4 x4 x5 o5 x35 i0 D5 N5 hsz3 hgf hgl hll
  have q1 : l.length ≤ cf := by omega
  have q2 : (l.length : Int) ≤ (cf : Int) := by omega
  go_wp2_with (first | (at_builtin; refine wpList_append_known rfl _ _ 23 23 rfl _ _ rfl rfl _ _ (unhide R4) ?_; clear R4) | (at_builtin; refine wpList_append_known rfl _ _ 23 23 rfl _ _ rfl rfl _ _ (unhide R5) ?_))
  refine (unhide HNw).mono ?_
  rintro y w6 ⟨g1, o1, rfl, ro1, to1, bo1, _, x6⟩
  dsimp only
  have S6 : SaI w gT gs os w6 := ⟨S5.k.on x6, S5.s, S5.b.trans (x6.mono S5.b.size)⟩
  have HO6 := hide ((unhide HO5).below x6)
  obtain ⟨hf1, hf2, hf3⟩ := half_wrap (n := l.length) (by omega)
  have hfl : l.length / 2 ≤ l.length := by omega
  have N6 := own_pre (unhide HO6) hin2 (by simp; omega)
  have HRp := hide (ReplR9_at g1 o1 (l.length / 2) (l.length / 2) (some ⟨gf, 0, none⟩) cf l w6 ro1 N6 (Nat.le_refl _) (by rw [to1]; omega) (by rw [to1]; omega) (by rw [to1]; omega) (unhide HW w6 S6.b))
  rw [to1] at HRp
  have hfm : hfl = hfl := rfl
  clear hfm
  generalize l.length / 2 = hv at *
  clear HO5 HNw S5 x6 N6
  go_wp2_with fail
  refine (unhide HRp).mono ?_
  rintro y w7 ⟨g2, o2, rfl, ro2, to2, bo2, x7⟩
  dsimp only
  have S7 : SaI w gT gs os w7 := ⟨S6.k.on x7, S6.s, S6.b.trans (x7.mono S6.b.size)⟩
  have HO7 := hide ((unhide HO6).below x7)
  have ro1 := ro1.on x7
  have HRd := hide (Replaced9_at a1 a1 cap1 cap1 l l hv hv w7 (unhide HN w7 S7.b) (unhide HN w7 S7.b) (Nat.le_refl _) (by omega) (by omega))
  clear HO6 HRp S6 x7
  go_wp2_with fail
  refine (unhide HRd).mono ?_
  rintro y w8 ⟨vh, rfl, oh, x8⟩
  dsimp only
  have S8 : SaI w gT gs os w8 := ⟨S7.k.on x8, S7.s, S7.b.trans (x8.mono S7.b.size)⟩
  have HO8 := hide ((unhide HO7).below x8)
  have ro1 := ro1.on x8
  have ro2 := ro2.on x8
  have hz7 : gf < w7.heap.size := ((unhide HO7).at gf rfl).2
  have HBy : Hid (∀ X, Below w8.heap.size w8 X → Calls Tryd.prog 10 #[.pointer (some ⟨g1, 0, none⟩), .int .i64 0, .int .i64 (l.length : Int)] X fun y w' => ∃ v, y = .returned (.tuple #[v, .int .i64 0]) ∧ Own w' X.heap.size v l ∧ Below X.heap.size X w') := hide fun X hx => by
    have h := BytesR9_at g1 o1 0 l.length X (ro1.on hx) (Nat.zero_le _) (by rw [to1]; omega) (by rw [to1]; omega)
    rw [to1, Int.natCast_zero, List.drop_zero, Nat.sub_zero, List.take_length] at h
    exact h
  obtain ⟨ha, hn2, hc, rfl⟩ : ∃ a k c, vh = .slice a k c := by obtain ⟨a, c, h⟩ := oh.len; exact ⟨a, _, c, h⟩
  clear HO7 HRd S7 x8
  go_wp2_with fail
  refine (unhide HBy w8 (Below.refl _ _)).mono ?_
  rintro y w9 ⟨vcc, rfl, oc, x9⟩
  dsimp only
  obtain ⟨ca, cn, cc, rfl⟩ : ∃ a k c, vcc = .slice a k c := by obtain ⟨a, c, h⟩ := oc.len; exact ⟨a, _, c, h⟩
  go_wp2_with fail
  refine (unhide HBy w9 x9).mono ?_
  rintro y w10 ⟨vd, rfl, od, x10⟩
  dsimp only
  obtain ⟨da, dn, dc, rfl⟩ : ∃ a k c, vd = .slice a k c := by obtain ⟨a, c, h⟩ := od.len; exact ⟨a, _, c, h⟩
  have x810 := x9.trans (x10.mono x9.size)
  have S10 : SaI w gT gs os w10 := ⟨S8.k.on x810, S8.s, S8.b.trans (x810.mono S8.b.size)⟩
  have of10 := (unhide HO8).below x810
  have oh10 := oh.below x810
  have oc10 := oc.below x10
  have ro1 := ro1.on x810
  have ro2 := ro2.on x810
  -- which block is which
  have hgf8 : gf < w8.heap.size := ((unhide HO8).at gf rfl).2
  have nh : ∀ g, (Value.slice ha hn2 hc).ownBlock = some g → gf ≠ g ∧ w.heap.size ≤ g ∧ g < w8.heap.size := fun g e => by
    have h1 := oh.at g e
    have h2 := S8.b.size
    have h3 := hz7
    exact ⟨by omega, Nat.le_trans (by have := (unhide HGF).1; omega) h1.1, h1.2⟩
  have nc : ∀ g, (Value.slice ca cn cc).ownBlock = some g → w8.heap.size ≤ g ∧ g < w9.heap.size := fun g e => oc.at g e
  have nd : ∀ g, (Value.slice da dn dc).ownBlock = some g → w9.heap.size ≤ g := fun g e => (od.at g e).1
  have hs89 := x9.size
  have hw8 := S8.b.size
  have hwf := (unhide HGF).1
  have NB : Hid ((∀ g, (Value.slice ha hn2 hc).ownBlock = some g → gf ≠ g) ∧ (∀ g, (Value.slice ca cn cc).ownBlock = some g → w.heap.size ≤ g ∧ g ≠ gf ∧ (Value.slice da dn dc).ownBlock ≠ some g ∧ (Value.slice ha hn2 hc).ownBlock ≠ some g) ∧ (∀ g, (Value.slice da dn dc).ownBlock = some g → g ≠ gf) ∧ w.heap.size ≤ gf) := hide ⟨fun g e => (nh g e).1, fun g e => by
    have h1 := nc g e
    exact ⟨by omega, by omega, fun e2 => by have := nd g e2; omega, fun e2 => by have := (nh g e2).2.2; omega⟩, fun g e => by have := nd g e; omega, hwf⟩
  have T10 : Hid (OwS w gT gs os g1 o1 g2 o2 [(.slice da dn dc, l), (.slice ha hn2 hc, l.take hv ++ l ++ l.drop hv), (.slice ca cn cc, l)] w10) := hide ⟨S10.k, S10.s, S10.b, ro1, ro2, by
    intro p hp
    simp only [List.mem_cons, List.not_mem_nil, or_false] at hp
    rcases hp with rfl | rfl | rfl
    · exact Own.low od (Nat.zero_le _)
    · exact Own.low oh10 (Nat.zero_le _)
    · exact Own.low oc10 (Nat.zero_le _)⟩
  have HOF := hide of10
  have b10 := unhide HN w10 S10.b
  have kb := str_bs w10 a1 cap1 l b10.1.2.2.1
  have kc : (convert 23 9 (.slice ca cn cc)).run Tryd.prog w10 = .ok (.string (strOfNums l)) w10 := by
    obtain ⟨a, c, e, h⟩ := oc10.isB (unhide HIN) (by omega)
    cases e
    exact str_bs w10 _ _ l h.2.2.1
  have kf : (convert 23 9 (.slice (some ⟨gf, 0, none⟩) (l.length + 2) cf)).run Tryd.prog w10 = .ok (.string (strOfNums l ++ ⟨#[65, 66]⟩)) w10 := by
    obtain ⟨a, c, e, h⟩ := of10.isB hin2 (by simp; omega)
    simp only [Value.slice.injEq] at e
    obtain ⟨rfl, _, rfl⟩ := e
    have := str_bs w10 (some ⟨gf, 0, none⟩) cf (l ++ [65, 66]) h.2.2.1
    have e2 : (l ++ [65, 66] : List Int).length = l.length + 2 := by simp
    rw [str_ab9, e2] at this
    exact this
  have HTT := hide (And.intro to1 to2)
  have hcn : cn = l.length := by obtain ⟨a, c, e⟩ := oc.len; cases e; rfl
  subst hcn
  clear S8 S10 oh oc od oh10 oc10 of10 HO8 x9 x10 x810 nh nc nd hs89 hw8 hwf ro1 ro2 HBy b10 hgf8 hz7 bo1 bo2 to1 to2
  have hs1 : ¬ 9223372036854775807 < (strOfNums l).size + 2 := by rw [size_strO]; omega
  generalize hSl : strOfNums l = Sl at *
  have hSl := hSl.symm
  have HSl0 := hide hSl
  clear hSl
  go_upto_region 19 with fail
  have hSl := unhide HSl0
  clear HSl0
  obtain ⟨nb1, nb2, nb3, nb4⟩ := unhide NB
  have HSl : Hid (Sl = strOfNums l) := hide hSl
  clear hSl kb kc kf hs1 hf1 hf2 hf3
  clear NB
  have NB : Hid ((∀ g, (Value.slice ca l.length cc).ownBlock = some g → w.heap.size ≤ g ∧ (Value.slice da dn dc).ownBlock ≠ some g ∧ (Value.slice ha hn2 hc).ownBlock ≠ some g) ∧ w.heap.size ≤ gf ∧ ∀ p ∈ [(Value.slice da dn dc, l), (Value.slice ha hn2 hc, l.take hv ++ l ++ l.drop hv), (Value.slice ca l.length cc, l)], p.1.ownBlock ≠ some gf) := hide ⟨fun g e => ⟨(nb2 g e).1, (nb2 g e).2.2⟩, nb4, fun p hp e => by
    simp only [List.mem_cons, List.not_mem_nil, or_false] at hp
    rcases hp with rfl | rfl | rfl
    · exact nb3 gf e rfl
    · exact nb1 gf e rfl
    · exact (nb2 gf e).2.1 rfl⟩
  clear nb1 nb2 nb3 nb4
  have HOF2 : Hid (∃ L : List Int, L.length = l.length + 2 ∧ Own w10 0 (.slice (some ⟨gf, 0, none⟩) (l.length + 2) cf) L) := hide ⟨_, by simp, Own.low (unhide HOF) (Nat.zero_le _)⟩
  clear HOF
  obtain ⟨rw3, hrw3⟩ : ∃ rw3, rw3 = [(Value.slice da dn dc, l), (Value.slice ha hn2 hc, l.take hv ++ l ++ l.drop hv), (Value.slice ca l.length cc, l)] := ⟨_, rfl⟩
  have HR3 := hide hrw3
  rw [← hrw3] at T10 NB
  clear hrw3
  go_wp2_with fail
  go_loopw [18, 108] (fun v18 v108 wx => (∃ z, v18 = z) ∧ ∃ i : Nat, v108 = .int .i64 (i : Int) ∧ i ≤ l.length + 2 ∧ Hid (OwS w gT gs os g1 o1 g2 o2 rw3 wx) ∧ Hid (∃ L : List Int, L.length = l.length + 2 ∧ Own wx 0 (.slice (some ⟨gf, 0, none⟩) (l.length + 2) cf) L)) (fun _ v108 _ => l.length + 2 - (intOf v108).toNat)
  case atStart => exact ⟨⟨_, rfl⟩, 0, rfl, Nat.zero_le _, T10, HOF2⟩
  case round =>
    clear T10 HOF2
    obtain ⟨⟨z18, rfl⟩, i, rfl, hi, HT, HL⟩ := hrel
    by_cases c : i < l.length + 2
    · have t1 : (i : Int) < (l.length : Int) + 2 := by omega
      obtain ⟨L, hL, oL⟩ := unhide HL
      obtain ⟨e1, e2⟩ := oL.cell i (by omega)
      obtain ⟨cv, e3⟩ := Option.isSome_iff_exists.1 e1
      have HT2 := hide ((unhide HT).set oL (unhide NB).2.1 (unhide NB).2.2 i (.int .u8 42))
      have HL2 : Hid (∃ L : List Int, L.length = l.length + 2 ∧ Own (wr.setCell ⟨gf, i, none⟩ (.int .u8 42)) 0 (.slice (some ⟨gf, 0, none⟩) (l.length + 2) cf) L) := hide ⟨L.set i 42, by simp [hL], oL.set i 42⟩
      have hiw : IntKind.i64.wrap ((i : Int) + 1) = (i : Int) + 1 := by rw [IntKind.wrap_i64]; omega
      clear HT HL oL hL
      go_wp2_with fail
      go_roundw
      case rel => exact ⟨⟨_, rfl⟩, i + 1, by go_num, by omega, HT2, HL2⟩
      case measure =>
        show l.length + 2 - ((i : Int) + 1).toNat < l.length + 2 - (i : Int).toNat
        omega
    · have t1 : ¬ (i : Int) < (l.length : Int) + 2 := by omega
      have hT := unhide HT
      rw [unhide HR3] at hT
      have oC : Own wr 0 (.slice ca l.length cc) l := hT.rows (_, _) (by simp)
      obtain ⟨rw2, hrw2⟩ : ∃ rw2, rw2 = [(Value.slice da dn dc, l), (Value.slice ha hn2 hc, l.take hv ++ l ++ l.drop hv)] := ⟨_, rfl⟩
      have HT2 : Hid (OwS w gT gs os g1 o1 g2 o2 rw2 wr) := hide ⟨hT.k, hT.s, hT.b, hT.r1, hT.r2, fun p hp => hT.rows p (by rw [hrw2] at hp; simp only [List.mem_cons, List.not_mem_nil, or_false] at hp ⊢; rcases hp with h | h <;> simp [h])⟩
      have HR2 := hide hrw2
      have HC : Hid (∃ L : List Int, L.length = l.length ∧ Own wr 0 (.slice ca l.length cc) L) := hide ⟨l, rfl, oC⟩
      have NB2 : Hid (∀ g, (Value.slice ca l.length cc).ownBlock = some g → w.heap.size ≤ g ∧ ∀ p ∈ rw2, p.1.ownBlock ≠ some g) := hide fun g e => ⟨((unhide NB).1 g e).1, fun p hp => by
        rw [hrw2] at hp
        simp only [List.mem_cons, List.not_mem_nil, or_false] at hp
        rcases hp with rfl | rfl
        · exact ((unhide NB).1 g e).2.1
        · exact ((unhide NB).1 g e).2.2⟩
      clear HT HL hT oC hrw2 NB HR3 hi c
      go_wp2_with fail
      go_loopw [19, 117] (fun v19 v117 wx => (∃ z, v19 = z) ∧ ∃ i : Nat, v117 = .int .i64 (i : Int) ∧ i ≤ l.length ∧ Hid (OwS w gT gs os g1 o1 g2 o2 rw2 wx) ∧ Hid (∃ L : List Int, L.length = l.length ∧ Own wx 0 (.slice ca l.length cc) L)) (fun _ v117 _ => l.length - (intOf v117).toNat)
      case atStart => exact ⟨⟨_, rfl⟩, 0, rfl, Nat.zero_le _, HT2, HC⟩
      case round =>
        clear HT2 HC
        obtain ⟨⟨z19, rfl⟩, i, rfl, hi, HT, HL⟩ := hrel
        by_cases c : i < l.length
        · have t1 : (i : Int) < (l.length : Int) := by omega
          obtain ⟨L, hL, oL⟩ := unhide HL
          obtain ⟨gc, c', e, _, _, _⟩ := oL.form (by omega)
          simp only [Value.slice.injEq] at e
          obtain ⟨hca, _, _⟩ := e
          have nb := unhide NB2
          rw [hca] at oL nb
          obtain ⟨e1, e2⟩ := oL.cell i (by omega)
          obtain ⟨cv, e3⟩ := Option.isSome_iff_exists.1 e1
          have HT2 := hide ((unhide HT).set oL (nb gc rfl).1 (nb gc rfl).2 i (.int .u8 43))
          have HL2 : Hid (∃ L : List Int, L.length = l.length ∧ Own (wr.setCell ⟨gc, i, none⟩ (.int .u8 43)) 0 (.slice ca l.length cc) L) := hide ⟨L.set i 43, by simp [hL], by rw [hca]; exact oL.set i 43⟩
          have hiw : IntKind.i64.wrap ((i : Int) + 1) = (i : Int) + 1 := by rw [IntKind.wrap_i64]; omega
          clear HT HL oL hL nb
          go_wp2_with fail
          go_roundw
          case rel => exact ⟨⟨_, rfl⟩, i + 1, by go_num, by omega, HT2, HL2⟩
          case measure =>
            show l.length - ((i : Int) + 1).toNat < l.length - (i : Int).toNat
            omega
        · have t1 : ¬ (i : Int) < (l.length : Int) := by omega
          have HC : Hid (∃ L : List Int, L.length = l.length + 0 ∧ Own wr 0 (.slice ca l.length cc) L) := HL
          clear HL hi c
          go_wp2_with fail
          go_loopw [14, 20] (fun v14 v20 wx => ∃ (ca' : Option Addr) (cn' cc' : Nat), v14 = .slice ca' cn' cc' ∧ ∃ i : Nat, v20 = .int .i64 (i : Int) ∧ i ≤ 40 ∧ Hid (OwS w gT gs os g1 o1 g2 o2 rw2 wx) ∧ Hid (∃ L : List Int, L.length = l.length + i ∧ Own wx 0 (.slice ca' cn' cc') L) ∧ Hid (∀ g, (Value.slice ca' cn' cc').ownBlock = some g → w.heap.size ≤ g ∧ ∀ p ∈ rw2, p.1.ownBlock ≠ some g)) (fun _ v20 _ => 40 - (intOf v20).toNat)
          case atStart => exact ⟨_, _, _, rfl, 0, rfl, Nat.zero_le _, HT, HC, NB2⟩
          case round =>
            clear HT HC NB2
            obtain ⟨ca', cn', cc', rfl, i, rfl, hi, HT, HL, NB2⟩ := hrel
            by_cases c : i < 40
            · have t1 : (i : Int) < 40 := by omega
              obtain ⟨L, hL, oL⟩ := unhide HL
              obtain ⟨pa, pn, pc, W', rp, op, gp, bp⟩ := own_push oL 44 (by decide) (by omega)
              have x5 := (Below.refl wr.heap.size wr).alloc (Nat.le_refl _) (.cells #[.int .u8 44] 5)
              have hT := (unhide HT).on x5
              have oL5 := oL.below x5
              have HT2 : Hid (OwS w gT gs os g1 o1 g2 o2 rw2 W') := hide (hT.grow gp fun g e => ⟨(oL5.block e).2, (unhide NB2 g e).1, (unhide NB2 g e).2⟩)
              have HL2 : Hid (∃ L : List Int, L.length = l.length + (i + 1) ∧ Own W' 0 (.slice pa pn pc) L) := hide ⟨_, by simp [hL]; omega, op⟩
              have NB3 : Hid (∀ g, (Value.slice pa pn pc).ownBlock = some g → w.heap.size ≤ g ∧ ∀ p ∈ rw2, p.1.ownBlock ≠ some g) := hide fun g e => by
                rcases bp with h | h
                · exact unhide NB2 g (h ▸ e)
                · obtain rfl : g = _ := Option.some.inj (e.symm.trans h)
                  refine ⟨hT.b.size, fun p hp e2 => ?_⟩
                  have := ((hT.rows p hp).at _ e2).2
                  omega
              have RP := hide rp
              have hiw : IntKind.i64.wrap ((i : Int) + 1) = (i : Int) + 1 := by rw [IntKind.wrap_i64]; omega
              clear HT HL NB2 oL hL rp op gp bp x5 hT oL5
              go_wp2_with (at_builtin; refine wpList_append_known rfl _ _ 23 23 rfl _ _ rfl rfl _ _ (unhide RP) ?_)
              go_roundw
              case rel => exact ⟨_, _, _, rfl, i + 1, by go_num, by omega, HT2, HL2, NB3⟩
              case measure =>
                show 40 - ((i : Int) + 1).toNat < 40 - (i : Int).toNat
                omega
            · have t1 : ¬ (i : Int) < 40 := by omega
              have hT := unhide HT
              have hr := hT.rows
              rw [unhide HR2] at hr
              have oD : Own wr 0 (.slice da dn dc) l := hr (_, _) (by simp)
              have oH : Own wr 0 (.slice ha hn2 hc) (l.take hv ++ l ++ l.drop hv) := hr (_, _) (by simp)
              have hin : ∀ x ∈ l.take hv ++ l ++ l.drop hv, 0 ≤ x ∧ x ≤ 255 := fun x hx => by
                rcases List.mem_append.1 hx with h | h
                · rcases List.mem_append.1 h with h | h
                  · exact unhide HIN x (List.mem_of_mem_take h)
                  · exact unhide HIN x h
                · exact unhide HIN x (List.mem_of_mem_drop h)
              have hll : (l.take hv ++ l ++ l.drop hv).length = l.length + l.length := by simp; omega
              have HSB := hide fun (Y : World) (hb : Below wr.heap.size wr Y) => (show (fun w' : World => (convert 23 9 (.slice da dn dc)).run Tryd.prog w' = .ok (.string (strOfNums l)) w' ∧ (convert 23 9 (.slice a1 l.length cap1)).run Tryd.prog w' = .ok (.string (strOfNums l)) w' ∧ (convert 23 9 (.slice ha hn2 hc)).run Tryd.prog w' = .ok (.string (strOfNums (l.take hv ++ l ++ l.drop hv))) w') Y from by
                refine ⟨?_, ?_, ?_⟩
                · obtain ⟨a, c, e, h⟩ := (oD.below hb).isB (unhide HIN) (by omega)
                  cases e
                  exact str_bs Y _ _ l h.2.2.1
                · exact str_bs Y a1 cap1 l (unhide HN Y (hT.b.trans (hb.mono hT.b.size))).1.2.2.1
                · obtain ⟨a, c, e, h⟩ := (oH.below hb).isB hin (by omega)
                  cases e
                  exact str_bs Y _ _ _ h.2.2.1)
              have HT1 := hide fun (Y : World) (hb : Below wr.heap.size wr Y) => text9_at g1 o1 Y (hT.r1.on hb) (by rw [(unhide HTT).1]; omega)
              have HT2 := hide fun (Y : World) (hb : Below wr.heap.size wr Y) => text9_at g2 o2 Y (hT.r2.on hb) (by rw [(unhide HTT).2, hll]; omega)
              rw [(unhide HTT).1] at HT1
              rw [(unhide HTT).2] at HT2
              have E0 : Below wr.heap.size wr wr.drew := (Below.refl _ wr).drew
              have HON := hide fun (Y : World) (hb : Below wr.heap.size wr Y) => hT.on hb
              rw [← unhide HSl] at HSB HT1
              clear HT HL NB2 hT hr oD oH hin hll HR2 HSl HTT hi c
              generalize strOfNums (l.take hv ++ l ++ l.drop hv) = Sh at *
              generalize l.length = ll at *
              go_upto_region 33 with fail
              refine regionL (S := fun w' => (convert 23 9 (.slice da dn dc)).run Tryd.prog w' = .ok (.string Sl) w' ∧ (convert 23 9 (.slice a1 ll cap1)).run Tryd.prog w' = .ok (.string Sl) w' ∧ (convert 23 9 (.slice ha hn2 hc)).run Tryd.prog w' = .ok (.string Sh) w') (fun _ => false) (by kernel_rfl) ?_
              generalize wr.drew = z0 at *
              refine anyL_take (i := 0) (v := ?vow0) rfl (by kernel_rfl) (by kernel_rfl) (by kernel_rfl) (by kernel_rfl) (fun _ _ _ h => h) (Or.inl ⟨by rfl, ?how0⟩) (unhide HSB _ E0) ?_
              case how0 => (intro w hSw; (try dsimp only at hSw); go_simp) <;> with_reducible rfl
              simp only [Act.put, List.getElem_toArray, List.getElem_cons_zero, List.setIfInBounds_toArray, List.set_cons_zero, List.set_cons_succ]
              refine anyL_take (i := 1) (v := ?vow1) rfl (by kernel_rfl) (by kernel_rfl) (by kernel_rfl) (by kernel_rfl) (fun _ _ _ h => h) (Or.inl ⟨by rfl, ?how1⟩) (unhide HSB _ E0) ?_
              case how1 => (intro w hSw; (try dsimp only at hSw); go_simp) <;> with_reducible rfl
              simp only [Act.put, List.getElem_toArray, List.getElem_cons_zero, List.getElem_cons_succ, List.setIfInBounds_toArray, List.set_cons_zero, List.set_cons_succ]
              refine anyL_take (i := 2) (v := ?vow2) rfl (by kernel_rfl) (by kernel_rfl) (by kernel_rfl) (by kernel_rfl) (fun _ _ _ h => h) (Or.inl ⟨by rfl, ?how2⟩) (unhide HSB _ E0) ?_
              case how2 => (intro w hSw; (try dsimp only at hSw); go_simp) <;> with_reducible rfl
              simp only [Act.put, List.getElem_toArray, List.getElem_cons_zero, List.getElem_cons_succ, List.setIfInBounds_toArray, List.set_cons_zero, List.set_cons_succ]
              refine anyL_take (i := 3) (v := ?vow3) rfl (by kernel_rfl) (by kernel_rfl) (by kernel_rfl) (by kernel_rfl) (fun _ _ _ h => h) (Or.inl ⟨by rfl, ?how3⟩) (unhide HSB _ E0) ?_
              case how3 => (intro w hSw; (try dsimp only at hSw); go_simp) <;> with_reducible rfl
              simp only [Act.put, List.getElem_toArray, List.getElem_cons_zero, List.getElem_cons_succ, List.setIfInBounds_toArray, List.set_cons_zero, List.set_cons_succ]
              refine anyL_take (i := 4) (v := ?vow4) rfl (by kernel_rfl) (by kernel_rfl) (by kernel_rfl) (by kernel_rfl) (fun _ _ _ h => h) (Or.inl ⟨by rfl, ?how4⟩) (unhide HSB _ E0) ?_
              case how4 => (intro w hSw; (try dsimp only at hSw); go_simp) <;> with_reducible rfl
              simp only [Act.put, List.getElem_toArray, List.getElem_cons_zero, List.getElem_cons_succ, List.setIfInBounds_toArray, List.set_cons_zero, List.set_cons_succ]
              refine anyL_take (i := 5) (v := ?vow5) rfl (by kernel_rfl) (by kernel_rfl) (by kernel_rfl) (by kernel_rfl) (fun _ _ _ h => h) (Or.inl ⟨by rfl, ?how5⟩) (unhide HSB _ E0) ?_
              case how5 => (intro w hSw; (try dsimp only at hSw); go_simp) <;> with_reducible rfl
              simp only [Act.put, List.getElem_toArray, List.getElem_cons_zero, List.getElem_cons_succ, List.setIfInBounds_toArray, List.set_cons_zero, List.set_cons_succ]
              refine anyL_take (i := 6) (v := ?vow6) rfl (by kernel_rfl) (by kernel_rfl) (by kernel_rfl) (by kernel_rfl) (fun _ _ _ h => h) (Or.inl ⟨by rfl, ?how6⟩) (unhide HSB _ E0) ?_
              case how6 => (intro w hSw; (try dsimp only at hSw); go_simp) <;> with_reducible rfl
              simp only [Act.put, List.getElem_toArray, List.getElem_cons_zero, List.getElem_cons_succ, List.setIfInBounds_toArray, List.set_cons_zero, List.set_cons_succ]
              refine anyL_take (i := 8) (v := ?vow7) rfl (by kernel_rfl) (by kernel_rfl) (by kernel_rfl) (by kernel_rfl) (fun _ _ _ h => h) (Or.inl ⟨by rfl, ?how7⟩) (unhide HSB _ E0) ?_
              case how7 => (intro w hSw; (try dsimp only at hSw); go_simp) <;> with_reducible rfl
              simp only [Act.put, List.getElem_toArray, List.getElem_cons_zero, List.getElem_cons_succ, List.setIfInBounds_toArray, List.set_cons_zero, List.set_cons_succ]
              refine anyL_take (i := 9) (v := ?vow8) rfl (by kernel_rfl) (by kernel_rfl) (by kernel_rfl) (by kernel_rfl) (fun _ _ _ h => h) (Or.inl ⟨by rfl, ?how8⟩) (unhide HSB _ E0) ?_
              case how8 => (intro w hSw; (try dsimp only at hSw); go_simp) <;> with_reducible rfl
              simp only [Act.put, List.getElem_toArray, List.getElem_cons_zero, List.getElem_cons_succ, List.setIfInBounds_toArray, List.set_cons_zero, List.set_cons_succ]
              refine anyL_ready (rs := [7]) (by kernel_rfl) (by simp) ?_
              refine AllL.cons rfl (fun K hK => ?_) AllL.nil
              go_simp
              refine (unhide HT1 _ E0).mono ?_
              rintro e y1 ⟨rfl, xy1⟩
              have E1 := E0.trans (xy1.mono E0.size)
              refine unhide hK _ _ (fun _ => unhide HSB _ E1) ?_
              clear hK K xy1
              refine anyL_take (i := 10) (v := ?vow9) rfl (by kernel_rfl) (by kernel_rfl) (by kernel_rfl) (by kernel_rfl) (fun _ _ _ h => h) (Or.inl ⟨by rfl, ?how9⟩) (unhide HSB _ E1) ?_
              case how9 => (intro w hSw; (try dsimp only at hSw); go_simp) <;> with_reducible rfl
              simp only [Act.put, List.getElem_toArray, List.getElem_cons_zero, List.getElem_cons_succ, List.setIfInBounds_toArray, List.set_cons_zero, List.set_cons_succ]
              refine anyL_take (i := 11) (v := ?vow10) rfl (by kernel_rfl) (by kernel_rfl) (by kernel_rfl) (by kernel_rfl) (fun _ _ _ h => h) (Or.inl ⟨by rfl, ?how10⟩) (unhide HSB _ E1) ?_
              case how10 => (intro w hSw; (try dsimp only at hSw); go_simp) <;> with_reducible rfl
              simp only [Act.put, List.getElem_toArray, List.getElem_cons_zero, List.getElem_cons_succ, List.setIfInBounds_toArray, List.set_cons_zero, List.set_cons_succ]
              refine anyL_take (i := 12) (v := ?vow11) rfl (by kernel_rfl) (by kernel_rfl) (by kernel_rfl) (by kernel_rfl) (fun _ _ _ h => h) (Or.inl ⟨by rfl, ?how11⟩) (unhide HSB _ E1) ?_
              case how11 => (intro w hSw; (try dsimp only at hSw); go_simp) <;> with_reducible rfl
              simp only [Act.put, List.getElem_toArray, List.getElem_cons_zero, List.getElem_cons_succ, List.setIfInBounds_toArray, List.set_cons_zero, List.set_cons_succ]
              refine anyL_take (i := 13) (v := ?vow12) rfl (by kernel_rfl) (by kernel_rfl) (by kernel_rfl) (by kernel_rfl) (fun _ _ _ h => h) (Or.inl ⟨by rfl, ?how12⟩) (unhide HSB _ E1) ?_
              case how12 => (intro w hSw; (try dsimp only at hSw); go_simp) <;> with_reducible rfl
              simp only [Act.put, List.getElem_toArray, List.getElem_cons_zero, List.getElem_cons_succ, List.setIfInBounds_toArray, List.set_cons_zero, List.set_cons_succ]
              refine anyL_take (i := 15) (v := ?vow13) rfl (by kernel_rfl) (by kernel_rfl) (by kernel_rfl) (by kernel_rfl) (fun _ _ _ h => h) (Or.inl ⟨by rfl, ?how13⟩) (unhide HSB _ E1) ?_
              case how13 => (intro w hSw; (try dsimp only at hSw); go_simp) <;> with_reducible rfl
              simp only [Act.put, List.getElem_toArray, List.getElem_cons_zero, List.getElem_cons_succ, List.setIfInBounds_toArray, List.set_cons_zero, List.set_cons_succ]
              refine anyL_take (i := 16) (v := ?vow14) rfl (by kernel_rfl) (by kernel_rfl) (by kernel_rfl) (by kernel_rfl) (fun _ _ _ h => h) (Or.inl ⟨by rfl, ?how14⟩) (unhide HSB _ E1) ?_
              case how14 => (intro w hSw; (try dsimp only at hSw); go_simp) <;> with_reducible rfl
              simp only [Act.put, List.getElem_toArray, List.getElem_cons_zero, List.getElem_cons_succ, List.setIfInBounds_toArray, List.set_cons_zero, List.set_cons_succ]
              refine anyL_ready (rs := [14]) (by kernel_rfl) (by simp) ?_
              refine AllL.cons rfl (fun K hK => ?_) AllL.nil
              go_simp
              refine (unhide HT2 _ E1).mono ?_
              rintro e y2 ⟨rfl, xy2⟩
              have E2 := E1.trans (xy2.mono E1.size)
              refine unhide hK _ _ (fun _ => unhide HSB _ E2) ?_
              clear hK K xy2
              refine anyL_take (i := 17) (v := ?vow15) rfl (by kernel_rfl) (by kernel_rfl) (by kernel_rfl) (by kernel_rfl) (fun _ _ _ h => h) (Or.inl ⟨by rfl, ?how15⟩) (unhide HSB _ E2) ?_
              case how15 => (intro w hSw; (try dsimp only at hSw); go_simp) <;> with_reducible rfl
              simp only [Act.put, List.getElem_toArray, List.getElem_cons_zero, List.getElem_cons_succ, List.setIfInBounds_toArray, List.set_cons_zero, List.set_cons_succ]
              refine anyL_take (i := 18) (v := ?vow16) rfl (by kernel_rfl) (by kernel_rfl) (by kernel_rfl) (by kernel_rfl) (fun _ _ _ h => h) (Or.inl ⟨by rfl, ?how16⟩) (unhide HSB _ E2) ?_
              case how16 => (intro w hSw; (try dsimp only at hSw); go_simp) <;> with_reducible rfl
              simp only [Act.put, List.getElem_toArray, List.getElem_cons_zero, List.getElem_cons_succ, List.setIfInBounds_toArray, List.set_cons_zero, List.set_cons_succ]
              refine anyL_done (by kernel_rfl) ?_ _
              have HT := hide (unhide HON _ E2)
              clear HON HSB HT1 HT2 E0 E1
              have hT := unhide HT
              obtain ⟨vr', vt', d1, d2, d3⟩ := hT.k.c
              obtain ⟨ra', rc', rfl⟩ := row_len9 d2
              obtain ⟨p0, _, _⟩ := cells2 d1
              clear d1 d2 d3 hT
              go_wp2_with fail
              clear p0
              go_loopw [21, 153] (fun v21 v153 wx => (∃ z, v21 = z) ∧ ∃ i : Nat, v153 = .int .i64 (i : Int) ∧ i ≤ gs.length ∧ Hid (OwS w gT gs os g1 o1 g2 o2 rw2 wx)) (fun _ v153 _ => gs.length - (intOf v153).toNat)
              case atStart => exact ⟨⟨_, rfl⟩, 0, rfl, Nat.zero_le _, HT⟩
              case round =>
                clear HT E2
                obtain ⟨⟨z21, rfl⟩, i, rfl, hi, HI⟩ := hrel
                by_cases c : i < gs.length
                · have t1 : (i : Int) < (gs.length : Int) := by omega
                  have hI := unhide HI
                  obtain ⟨gr, rc, gt, tc, p0, p1, pc⟩ := hI.k.rows (by omega)
                  obtain ⟨ci, cti⟩ := pc i c
                  have hri := hI.k.r i c
                  have hsi := hI.s i c
                  generalize gs.getD i 0 = gi at *
                  generalize os.getD i none = oi at *
                  have HTi := hide fun (Y : World) (hb : Below wr.heap.size wr Y) => text9_at gi oi Y (hri.1.on hb) hsi
                  generalize strOfNums (txtO oi) = Si at *
                  have HSW := hide fun (Y : World) (hb : Below wr.heap.size wr Y) => (show (fun w' : World => w'.cell? ⟨gT, 0, none⟩ = some (.slice (some ⟨gr, 0, none⟩) gs.length rc) ∧ w'.cell? ⟨gT, 1, none⟩ = some (.slice (some ⟨gt, 0, none⟩) gs.length tc) ∧ w'.cell? ⟨gr, i, none⟩ = some (.pointer (some ⟨gi, 0, none⟩)) ∧ w'.cell? ⟨gt, i, none⟩ = some (.string Si)) Y from ⟨(hb.cell (p := ⟨gT, 0, none⟩) (lt_cell p0)).trans p0, (hb.cell (p := ⟨gT, 1, none⟩) (lt_cell p1)).trans p1, (hb.cell (p := ⟨gr, i, none⟩) (lt_cell ci)).trans ci, (hb.cell (p := ⟨gt, i, none⟩) (lt_cell cti)).trans cti⟩)
                  have HIL := hide fun (Y : World) (hb : Below wr.heap.size wr Y) => hI.on hb
                  have D0 : Below wr.heap.size wr wr.drew := (Below.refl _ wr).drew
                  have hiw : IntKind.i64.wrap ((i : Int) + 1) = (i : Int) + 1 := by rw [IntKind.wrap_i64]; omega
                  clear pc hri hI HI hsi ci p0 p1 cti
                  generalize hnn : gs.length = n at *
                  go_upto_region 38 with fail
                  refine regionL (S := fun w' => w'.cell? ⟨gT, 0, none⟩ = some (.slice (some ⟨gr, 0, none⟩) n rc) ∧ w'.cell? ⟨gT, 1, none⟩ = some (.slice (some ⟨gt, 0, none⟩) n tc) ∧ w'.cell? ⟨gr, i, none⟩ = some (.pointer (some ⟨gi, 0, none⟩)) ∧ w'.cell? ⟨gt, i, none⟩ = some (.string Si)) (fun _ => false) (by kernel_rfl) ?_
                  generalize wr.drew = y0 at *
                  refine anyL_take (i := 0) (v := ?vox17) rfl (by kernel_rfl) (by kernel_rfl) (by kernel_rfl) (by kernel_rfl) (fun _ _ _ h => h) (Or.inl ⟨by rfl, ?hox17⟩) (unhide HSW _ D0) ?_
                  case hox17 => (intro w hSw; (try dsimp only at hSw); go_simp) <;> with_reducible rfl
                  simp only [Act.put, List.getElem_toArray, List.getElem_cons_zero, List.setIfInBounds_toArray, List.set_cons_zero, List.set_cons_succ]
                  refine anyL_take (i := 1) (v := ?vox18) rfl (by kernel_rfl) (by kernel_rfl) (by kernel_rfl) (by kernel_rfl) (fun _ _ _ h => h) (Or.inl ⟨by rfl, ?hox18⟩) (unhide HSW _ D0) ?_
                  case hox18 => (intro w hSw; (try dsimp only at hSw); go_simp) <;> with_reducible rfl
                  simp only [Act.put, List.getElem_toArray, List.getElem_cons_zero, List.getElem_cons_succ, List.setIfInBounds_toArray, List.set_cons_zero, List.set_cons_succ]
                  refine anyL_take (i := 2) (v := ?vox19) rfl (by kernel_rfl) (by kernel_rfl) (by kernel_rfl) (by kernel_rfl) (fun _ _ _ h => h) (Or.inl ⟨by rfl, ?hox19⟩) (unhide HSW _ D0) ?_
                  case hox19 => (intro w hSw; (try dsimp only at hSw); go_simp) <;> with_reducible rfl
                  simp only [Act.put, List.getElem_toArray, List.getElem_cons_zero, List.getElem_cons_succ, List.setIfInBounds_toArray, List.set_cons_zero, List.set_cons_succ]
                  refine anyL_take (i := 3) (v := ?vox20) rfl (by kernel_rfl) (by kernel_rfl) (by kernel_rfl) (by kernel_rfl) (fun _ _ _ h => h) (Or.inl ⟨by rfl, ?hox20⟩) (unhide HSW _ D0) ?_
                  case hox20 => (intro w hSw; (try dsimp only at hSw); go_simp) <;> with_reducible rfl
                  simp only [Act.put, List.getElem_toArray, List.getElem_cons_zero, List.getElem_cons_succ, List.setIfInBounds_toArray, List.set_cons_zero, List.set_cons_succ]
                  refine anyL_take (i := 4) (v := ?vox21) rfl (by kernel_rfl) (by kernel_rfl) (by kernel_rfl) (by kernel_rfl) (fun _ _ _ h => h) (Or.inl ⟨by rfl, ?hox21⟩) (unhide HSW _ D0) ?_
                  case hox21 => (intro w hSw; (try dsimp only at hSw); go_simp) <;> with_reducible rfl
                  simp only [Act.put, List.getElem_toArray, List.getElem_cons_zero, List.getElem_cons_succ, List.setIfInBounds_toArray, List.set_cons_zero, List.set_cons_succ]
                  refine anyL_take (i := 6) (v := ?vox22) rfl (by kernel_rfl) (by kernel_rfl) (by kernel_rfl) (by kernel_rfl) (fun _ _ _ h => h) (Or.inl ⟨by rfl, ?hox22⟩) (unhide HSW _ D0) ?_
                  case hox22 => (intro w hSw; (try dsimp only at hSw); go_simp) <;> with_reducible rfl
                  simp only [Act.put, List.getElem_toArray, List.getElem_cons_zero, List.getElem_cons_succ, List.setIfInBounds_toArray, List.set_cons_zero, List.set_cons_succ]
                  refine anyL_take (i := 7) (v := ?vox23) rfl (by kernel_rfl) (by kernel_rfl) (by kernel_rfl) (by kernel_rfl) (fun _ _ _ h => h) (Or.inl ⟨by rfl, ?hox23⟩) (unhide HSW _ D0) ?_
                  case hox23 => (intro w hSw; (try dsimp only at hSw); go_simp) <;> with_reducible rfl
                  simp only [Act.put, List.getElem_toArray, List.getElem_cons_zero, List.getElem_cons_succ, List.setIfInBounds_toArray, List.set_cons_zero, List.set_cons_succ]
                  refine anyL_take (i := 8) (v := ?vox24) rfl (by kernel_rfl) (by kernel_rfl) (by kernel_rfl) (by kernel_rfl) (fun _ _ _ h => h) (Or.inl ⟨by rfl, ?hox24⟩) (unhide HSW _ D0) ?_
                  case hox24 => (intro w hSw; (try dsimp only at hSw); go_simp) <;> with_reducible rfl
                  simp only [Act.put, List.getElem_toArray, List.getElem_cons_zero, List.getElem_cons_succ, List.setIfInBounds_toArray, List.set_cons_zero, List.set_cons_succ]
                  refine anyL_take (i := 9) (v := ?vox25) rfl (by kernel_rfl) (by kernel_rfl) (by kernel_rfl) (by kernel_rfl) (fun _ _ _ h => h) (Or.inl ⟨by rfl, ?hox25⟩) (unhide HSW _ D0) ?_
                  case hox25 => (intro w hSw; (try dsimp only at hSw); go_simp) <;> with_reducible rfl
                  simp only [Act.put, List.getElem_toArray, List.getElem_cons_zero, List.getElem_cons_succ, List.setIfInBounds_toArray, List.set_cons_zero, List.set_cons_succ]
                  refine anyL_take (i := 10) (v := ?vox26) rfl (by kernel_rfl) (by kernel_rfl) (by kernel_rfl) (by kernel_rfl) (fun _ _ _ h => h) (Or.inl ⟨by rfl, ?hox26⟩) (unhide HSW _ D0) ?_
                  case hox26 => (intro w hSw; (try dsimp only at hSw); go_simp) <;> with_reducible rfl
                  simp only [Act.put, List.getElem_toArray, List.getElem_cons_zero, List.getElem_cons_succ, List.setIfInBounds_toArray, List.set_cons_zero, List.set_cons_succ]
                  refine anyL_ready (rs := [5]) (by kernel_rfl) (by simp) ?_
                  refine AllL.cons rfl (fun K hK => ?_) AllL.nil
                  go_simp
                  refine (unhide HTi _ D0).mono ?_
                  rintro e y1 ⟨rfl, x1⟩
                  have D1 := D0.trans (x1.mono D0.size)
                  refine unhide hK _ _ (fun _ => unhide HSW _ D1) ?_
                  clear hK K x1
                  refine anyL_take (i := 11) (v := ?vox27) rfl (by kernel_rfl) (by kernel_rfl) (by kernel_rfl) (by kernel_rfl) (fun _ _ _ h => h) (Or.inl ⟨by rfl, ?hox27⟩) (unhide HSW _ D1) ?_
                  case hox27 => (intro w hSw; (try dsimp only at hSw); go_simp) <;> with_reducible rfl
                  simp only [Act.put, List.getElem_toArray, List.getElem_cons_zero, List.getElem_cons_succ, List.setIfInBounds_toArray, List.set_cons_zero, List.set_cons_succ]
                  refine anyL_done (by kernel_rfl) ?_ _
                  have HI2 := hide (unhide HIL _ D1)
                  clear HSW HIL HTi D0 D1
                  subst hnn
                  go_wp2_with fail
                  go_roundw
                  case rel => exact ⟨⟨_, rfl⟩, i + 1, by go_num, by omega, HI2⟩
                  case measure =>
                    show gs.length - ((i : Int) + 1).toNat < gs.length - (i : Int).toNat
                    omega
                · have t1 : ¬ (i : Int) < (gs.length : Int) := by omega
                  have HB := hide (unhide HI).b
                  go_wp2_with fail
                  refine bodyPost_ret (results_tmp rfl _ _ _) rfl ⟨rfl, unhide HB⟩

end Go.Proofs.YtpfjfgggacpdfaaDoor
end

section
namespace Go.Proofs.YtpfjfgggacpdfaaDoor
open Go.ChangeShapes Go.WideShapes Go.ChangeAt Go.RowKit
open Go.ChangeMaps (open_string shut_string)

set_option maxRecDepth 100000 in
theorem ropeOwn_contract (H : Type) (enc : TypeId × Value → H) (W : World) (base : Nat) (args : Array Value) (ds gs : List (DataW H)) (before : List MemPlace)
    (hval : ∀ (j : Nat) t v, Tryd.f3.params[j]? = some t → args[j]? = some v → Value.okWide Tryd.prog W .any base t v)
    (hW : DataW.Whole enc Tryd.prog Tryd.f3.params.toList Rows.ropeOwnSpec.vars false W args.toList ds gs before) (hsz : (DataW.weightsEach Tryd.prog (Tryd.f3.params.toList ++ (OpenSpec.ofChange Rows.ropeOwnSpec).bare.plain.varTypes Tryd.prog) (ds ++ gs)).all (· ≤ reachBytes) = true) (hL : laidMetH Tryd.prog Rows.ropeOwnRow.laid W) (hsh : W.ShapedOpen Tryd.prog) :
    Calls Tryd.prog 3 args W fun e W' => ∃ v, e = .returned v ∧ Rows.ropeOwnSpec.post enc Tryd.prog Tryd.f3 false true false false W args v W' := by
  have hW' := hW
  obtain ⟨p, q, hA0, hV, rfl, _, _⟩ := hW
  have hA : DataW.TrodAll enc Tryd.prog W 0 (fun _ => true) true Tryd.f3.params.toList args.toList ds p := hA0
  rw [Tryd.params3] at hA hval hsz
  obtain ⟨v0, vs0, d0, ds0, p0, q0, hargs, rfl, rfl, h0, r0⟩ := trodAll_cons hA
  obtain ⟨v1, vs1, d1, ds1, p1, q1, rfl, rfl, rfl, h1, r1⟩ := trodAll_cons r0
  obtain ⟨rfl, rfl, rfl⟩ := trodAll_nil r1
  obtain rfl : args = #[v0, v1] := by cases args; simp_all
  obtain ⟨rfl, rfl⟩ := trodVars_none hV
  obtain ⟨a0, len0, cap0, rfl⟩ := okWide_slice Tryd.underlying22 (hval 0 22 v0 rfl rfl)
  have k0 := h0
  have lt0 : ∀ x ∈ p0, x.block < W.heap.size := by obtain ⟨m, hm⟩ := k0; exact DataW.trod_lt m _ _ _ hm
  obtain ⟨l0, rfl, w0, u0⟩ := acts1_of_trod h0 hsz (j := 0) rfl rfl
  obtain ⟨a1, len1, cap1, rfl⟩ := okWide_slice Tryd.underlying23 (hval 1 23 v1 rfl rfl)
  have k1 := h1
  have lt1 : ∀ x ∈ p1, x.block < W.heap.size := by obtain ⟨m, hm⟩ := k1; exact DataW.trod_lt m _ _ _ hm
  obtain ⟨l1, rfl, w1⟩ := rowN_of_trod h1 hsz (j := 1) rfl rfl
  clear hA0
  refine (RopeOwn_any a0 cap0 l0 a1 cap1 l1 W w0 u0 w1 (wt_of hL hsh)).mono fun e W' ⟨he, bel⟩ => ?_
  subst he
  exact ⟨_, rfl, _, _, _, [], _, [], hW', trodAll_mk1 (shut_bool Tryd.underlying4 _), (trodAll_cons_mk (Below.trod laidOut (by kernel_rfl) (of_decide_eq_true (by kernel_rfl)) k0 bel lt0) (trodAll_cons_mk (Below.trod laidOut (by kernel_rfl) (of_decide_eq_true (by kernel_rfl)) k1 bel lt1) trodAll_mk0)), rfl, bel.frame _, fun h => by cases h⟩

theorem ropeOwn_met (os : Os) : laidMet Tryd.prog Rows.ropeOwnRow.laid ((laidWorldW os).forCall (fun _ _ => 0) ⟨#[], #[.slice none 0 0, .slice none 0 0], []⟩).memory :=
  laidMet_of_run' 8 (by kernel_rfl) (by kernel_rfl)
theorem ropeOwn_reads (os : Os) {H : Type} (enc : TypeId × Value → H) : ∃ places, DataW.whole enc Tryd.prog ((laidWorldW os).forCall (fun _ _ => 0) ⟨#[], #[.slice none 0 0, .slice none 0 0], []⟩).memory Tryd.f3.params.toList Rows.ropeOwnSpec.vars false (#[.slice none 0 0, .slice none 0 0] : Array Value).toList 8 = some ([.nil, .nil], [], places) :=
  ⟨[], by kernel_rfl⟩

set_option maxRecDepth 100000 in
theorem ropeOwn_lifted (os : Os) (started : os.Started) (H : Type) (enc : TypeId × Value → H) (F : Stop.Interp) :
    ReturnsInHanded {} Tryd.checked os 3 .any ((OpenSpec.ofChange Rows.ropeOwnSpec).preRow enc Tryd.prog Tryd.f3 Rows.ropeOwnRow.domain false Rows.ropeOwnRow.laid) (((OpenSpec.ofChange Rows.ropeOwnSpec).at F).post enc Tryd.prog Tryd.f3 false true false false) := by
  obtain ⟨places, hx⟩ := ropeOwn_reads os enc
  refine returnsInHanded_of_row (C := Tryd.checked) (s := OpenSpec.ofChange Rows.ropeOwnSpec) own started (by kernel_rfl) Tryd.func3
    (witness_row_at (enc := enc) (C := Tryd.checked) false (laidWorldW os) #[.slice none 0 0, .slice none 0 0] rfl (by kernel_rfl) (by kernel_rfl) (by kernel_rfl)
      (OpenSpec.preRow_of_cond 8 hx (by kernel_rfl) (fun k hk => by cases hk) (by kernel_rfl) (ropeOwn_met os))) ?_
  intro W base args ds gs before hval hW _ _ hsz hL hsh _
  exact ropeOwn_contract H enc W base args ds gs before hval hW hsz hL hsh

theorem ropeOwn_said : Rows.RopeOwnSaid :=
  OpenClaim.holds_of_cond 3 Tryd.f3 rfl rfl rfl rfl rfl rfl rfl ⟨rfl, rfl, rfl, rfl, rfl⟩ rfl rfl rfl rfl rfl (by kernel_rfl) Tryd.func3 (by kernel_rfl)
    (of_decide_eq_true (by kernel_rfl)) (by unfold Func.isWrapper; first | (rw [if_pos (by decide +kernel)]; kernel_rfl) | (rw [if_neg (by decide +kernel)]; exact ⟨rfl, rfl⟩))
    (fun os started H enc _ F => by rw [OpenClaim.pre_eq_preRow]; exact ropeOwn_lifted os started H enc F)

theorem ropeOwn_plain (f : FuncId) (fn : Func) (hf : Tryd.pinned.checked.prog.funcNamed "galley/galleylaw09.RopeOwn" = some f) (hfn : Tryd.pinned.checked.prog.funcs[f]? = some fn) :
    true = Tryd.pinned.checked.prog.looks [] ∧ ∀ (j : Nat) t, fn.params[j]? = some t → Tryd.pinned.checked.prog.wantsStandIn t = false := by
  obtain rfl : f = 3 := Option.some.inj ((show Tryd.prog.funcNamed "galley/galleylaw09.RopeOwn" = some 3 by kernel_rfl).symm.trans hf) |>.symm
  obtain rfl : fn = Tryd.f3 := (Option.some.inj (Tryd.func3.symm.trans hfn)).symm
  refine ⟨by kernel_rfl, fun j t ht => ?_⟩
  rw [Tryd.params3] at ht
  have hm := Array.mem_of_getElem? ht
  simp only [List.mem_toArray, List.mem_cons, List.not_mem_nil, or_false] at hm
  rcases hm with rfl | rfl
  · exact (show Tryd.prog.wantsStandIn 22 = false by kernel_rfl)
  · exact (show Tryd.prog.wantsStandIn 23 = false by kernel_rfl)

/-- the card -/
theorem ropeOwn_card : Rows.RopeOwnCardSaid :=
  Claim7.holds_tied_plain_at .later [] _ _ _ _ ropeOwn_said (fun _ h => by cases h) (by kernel_rfl) (fun _ h => by cases h) ropeOwn_row_tie rfl ⟨rfl, rfl⟩ (by kernel_rfl) rfl ropeOwn_plain (by kernel_rfl)

#print axioms ropeOwn_card
end Go.Proofs.YtpfjfgggacpdfaaDoor
end
