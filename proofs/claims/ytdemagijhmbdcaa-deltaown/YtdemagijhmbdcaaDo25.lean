/- Layer 13: through. -/
import Derived.Test.YtdemagijhmbdcaaDo23
import Derived.Test.YtdemagijhmbdcaaDo24

namespace Go.Proofs.Ytdemagijhmbdcaa
open Go.ChangeShapes Go.WideShapes Go.ChangeAt Go.RowKit
attribute [local go_sem] Oper.semAt_some

theorem IsBd.off {X Y : World} {B gB g : Nat} {r : Nat → Option Value} {b : Bld} {ts : List (List Int)} {cs : Array Value} (h : IsBd X B gB 0 r b ts) (hg : Cls X g 83 cs) (hs : ∀ i, i ≠ g → Y.heap[i]? = X.heap[i]?) : IsBd Y B gB 0 r b ts := by
  obtain ⟨vo, vt, h1, h2, h3⟩ := h.c
  have hrow : ∀ {t : TypeId} {s n : Nat} {v : Value} {xs : List Value}, X.ownsRow B t s v n xs → t ≠ 83 → Y.ownsRow B t s v n xs := fun hr ht => rowD_on hr fun G hG => by
    obtain ⟨_, cur, hc⟩ := rowD_block hr hG
    exact hs G (typeD_ne hc hg ht)
  refine ⟨⟨vo, vt, h1.same (hs gB ?_), hrow h2 (by decide), hrow h3 (by decide)⟩, h.t, h.z, fun ca q e1 e2 => ?_⟩
  · obtain ⟨ca, t, k1, k2, _⟩ := h1.c
    exact typeD_ne k1 hg (by rcases k2 with rfl | rfl <;> decide)
  · have h3 := h.f ca q e1 e2
    exact (hs q (typeD_ne h3 hg (by decide))).trans h3
/-- what the two readers and the builder are in the midst of it -/
structure CmS (w : World) (B gf gt gB : Nat) (X : World) (rf : List Dop) (uf : Nat) (rt : List Dop) (ut : Nat) (acc : List Atm) : Prop where
  f : IsRd w X gf rf uf
  t : IsRd w X gt rt ut
  b : ∃ ts, IsBd X B gB 0 (fun _ => none) (feedA b0 acc) ts
  d : Below w.heap.size w X
  l : gf < B ∧ gt < B ∧ gf ≠ gt ∧ w.heap.size ≤ B ∧ B ≤ X.heap.size
theorem CmS.on {w : World} {B gf gt gB : Nat} {X Y : World} {rf : List Dop} {uf : Nat} {rt : List Dop} {ut : Nat} {acc : List Atm} (h : CmS w B gf gt gB X rf uf rt ut acc) (hb : Below X.heap.size X Y) : CmS w B gf gt gB Y rf uf rt ut acc := by
  obtain ⟨ts, hB⟩ := h.b
  have := h.l
  have hs := hb.size
  exact ⟨h.f.same (hb.block gf h.f.lt), h.t.same (hb.block gt h.t.lt), ⟨ts, hB.on hb (Nat.le_refl _)⟩, h.d.trans (hb.mono (by omega)), by omega⟩
theorem CmS.drewN {w : World} {B gf gt gB : Nat} {X : World} {rf : List Dop} {uf : Nat} {rt : List Dop} {ut : Nat} {acc : List Atm} (h : CmS w B gf gt gB X rf uf rt ut acc) (n : Nat) : CmS w B gf gt gB (X.drewN n) rf uf rt ut acc := h.on (below_drewN (Below.refl _ _) n)
theorem CmS.takeF {w : World} {B gf gt gB : Nat} {X Y : World} {rf rf' : List Dop} {uf uf' : Nat} {rt : List Dop} {ut : Nat} {acc : List Atm} (h : CmS w B gf gt gB X rf uf rt ut acc) (hf : IsRd w Y gf rf' uf') (ha : Alone gf X Y) : CmS w B gf gt gB Y rf' uf' rt ut acc := by
  obtain ⟨ts, hB⟩ := h.b
  obtain ⟨a, c, h1, _⟩ := h.f.c
  have := h.l
  have hs := ha.1.size
  exact ⟨hf, h.t.same (ha.2 gt (by omega)), ⟨ts, hB.off h1 ha.2⟩, h.d.trans (ha.1.mono h.f.z), by omega⟩
theorem CmS.takeT {w : World} {B gf gt gB : Nat} {X Y : World} {rf : List Dop} {uf : Nat} {rt rt' : List Dop} {ut ut' : Nat} {acc : List Atm} (h : CmS w B gf gt gB X rf uf rt ut acc) (ht : IsRd w Y gt rt' ut') (ha : Alone gt X Y) : CmS w B gf gt gB Y rf uf rt' ut' acc := by
  obtain ⟨ts, hB⟩ := h.b
  obtain ⟨a, c, h1, _⟩ := h.t.c
  have := h.l
  have hs := ha.1.size
  exact ⟨h.f.same (ha.2 gf (by omega)), ht, ⟨ts, hB.off h1 ha.2⟩, h.d.trans (ha.1.mono h.t.z), by omega⟩
theorem CmS.more {w : World} {B gf gt gB : Nat} {X Y : World} {rf : List Dop} {uf : Nat} {rt : List Dop} {ut : Nat} {acc acc' : List Atm} (h : CmS w B gf gt gB X rf uf rt ut acc) (hb : ∃ ts, IsBd Y B gB 0 (fun _ => none) (feedA b0 acc') ts) (hw : Below B X Y) : CmS w B gf gt gB Y rf uf rt ut acc' := by
  have := h.l
  have hs := hw.size
  exact ⟨h.f.same (hw.block gf (by omega)), h.t.same (hw.block gt (by omega)), hb, h.d.trans (hw.mono (by omega)), by omega⟩
theorem feed_k (b : Bld) (n : Nat) : feedA b (List.replicate n .k) = b.keep n := by
  have := op_atoms b ⟨1, (n : Int), []⟩
  rw [op_keep rfl] at this
  simpa [opA] using this.symm
theorem feed_d (b : Bld) (n : Nat) : feedA b (List.replicate n .d) = b.drop n := by
  have := op_atoms b ⟨3, (n : Int), []⟩
  rw [op_drop rfl] at this
  simpa [opA] using this.symm
theorem feed_p (b : Bld) (t : List Int) : feedA b (t.map .p) = b.put t := by
  have := op_atoms b ⟨2, 0, t⟩
  rw [op_put rfl] at this
  simpa [opA] using this.symm
theorem rl_at (w X : World) (g : Nat) (o : Dop) (r : List Dop) (u : Nat) (h : IsRd w X g (o :: r) u) (hd : Below w.heap.size w X) :
    Calls Try.prog 54 #[.pointer (some ⟨g, 0, none⟩)] X fun y X' => y = .returned (.int .i64 (lfR (o :: r) u : Int)) ∧ ∃ n, X' = X.drewN n := by
  obtain ⟨a, c, h1, h2, _⟩ := h.c
  exact rleft_at w X g a c o r u h1 h2 (h.k.p o (by simp)) (h.k.s o (by simp)) (Nat.le_of_lt (rdK_hd h.k)) hd
/-- what comes of a run of both -/
def outT (kf kt : Int) (t : List Int) (n : Nat) : List Atm := if kf = 2 then (if kt = 1 then t.map .p else []) else (if kt = 1 then List.replicate n .k else List.replicate n .d)
theorem CmS.keep {w : World} {B gf gt gB : Nat} {X : World} {rf : List Dop} {uf : Nat} {rt : List Dop} {ut : Nat} {acc : List Atm} (h : CmS w B gf gt gB X rf uf rt ut acc) (n : Nat) (hn : n ≤ 536870912) (ha : acc.length ≤ 1073741824) :
    Calls Try.prog 37 #[.pointer (some ⟨gB, 0, none⟩), .int .i64 (n : Int)] X fun y X' => y = .returned (.tuple #[]) ∧ CmS w B gf gt gB X' rf uf rt ut (acc ++ List.replicate n .k) := by
  obtain ⟨ts, hB⟩ := h.b
  refine (bkeep_at B gB 0 (fun _ => none) _ ts n X hB (bd_ok hB ha) (by omega) h.l.2.2.2.2).mono fun y Y ⟨e, ⟨ts', h3, _⟩, h4⟩ => ⟨e, h.more ⟨ts', ?_⟩ h4⟩
  rw [feedA_app, feed_k]; exact h3
theorem CmS.drop {w : World} {B gf gt gB : Nat} {X : World} {rf : List Dop} {uf : Nat} {rt : List Dop} {ut : Nat} {acc : List Atm} (h : CmS w B gf gt gB X rf uf rt ut acc) (n : Nat) (hn : n ≤ 536870912) (ha : acc.length ≤ 1073741824) :
    Calls Try.prog 39 #[.pointer (some ⟨gB, 0, none⟩), .int .i64 (n : Int)] X fun y X' => y = .returned (.tuple #[]) ∧ CmS w B gf gt gB X' rf uf rt ut (acc ++ List.replicate n .d) := by
  obtain ⟨ts, hB⟩ := h.b
  refine (bdrop_at B gB 0 (fun _ => none) _ ts n X hB (by have := (bd_ok hB ha).d; omega)).mono fun y Y ⟨e, h3, h4⟩ => ⟨e, h.more ⟨ts, ?_⟩ h4⟩
  rw [feedA_app, feed_d]; exact h3
theorem CmS.put {w : World} {B gf gt gB : Nat} {X : World} {rf : List Dop} {uf : Nat} {rt : List Dop} {ut : Nat} {acc : List Atm} (h : CmS w B gf gt gB X rf uf rt ut acc) (t : List Int) (ha : acc.length ≤ 1073741824) :
    Calls Try.prog 38 #[.pointer (some ⟨gB, 0, none⟩), .string (strOfNums t)] X fun y X' => y = .returned (.tuple #[]) ∧ CmS w B gf gt gB X' rf uf rt ut (acc ++ t.map .p) := by
  obtain ⟨ts, hB⟩ := h.b
  refine (bput_at B gB 0 (fun _ => none) _ ts t X hB (bd_ok hB ha).t h.l.2.2.2.2).mono fun y Y ⟨e, h3, h4⟩ => ⟨e, h.more ⟨if t = [] then ts else ts ++ [t], ?_⟩ h4⟩
  rw [feedA_app, feed_p]; exact h3
set_option maxRecDepth 100000 in
set_option maxHeartbeats 2000000 in
theorem through_at (w X : World) (B gf gt gB : Nat) (o : Dop) (rf : List Dop) (uf : Nat) (p : Dop) (rt : List Dop) (ut : Nat) (acc : List Atm) (n : Nat) (h : CmS w B gf gt gB X (o :: rf) uf (p :: rt) ut acc) (hn : n = min (lfR (o :: rf) uf) (lfR (p :: rt) ut)) (kf : o.k = 1 ∨ o.k = 2) (kt : p.k = 1 ∨ p.k = 3) (ha : acc.length ≤ 1073741824) :
    Calls Try.prog 56 #[.pointer (some ⟨gf, 0, none⟩), .pointer (some ⟨gt, 0, none⟩), .pointer (some ⟨gB, 0, none⟩)] X fun y X' => y = .returned (.tuple #[]) ∧
      CmS w B gf gt gB X' (tkR (o :: rf) uf n).1 (tkR (o :: rf) uf n).2 (tkR (p :: rt) ut n).1 (tkR (p :: rt) ut n).2 (acc ++ outT o.k p.k (txR (o :: rf) uf n) n) := by
  have hu1 := rdK_hd h.f.k
  have hu2 := rdK_hd h.t.k
  have hs1 := h.f.k.s o (by simp)
  have l1 : lfR (o :: rf) uf = szO o - uf := rfl
  have l2 : lfR (p :: rt) ut = szO p - ut := rfl
  have hn1 : 1 ≤ n ∧ n ≤ lfR (o :: rf) uf := by omega
  have hn2 : 1 ≤ n ∧ n ≤ lfR (p :: rt) ut := by omega
  have hnb : n ≤ 536870912 := by omega
  have HS := hide h
  have HK1 := hide (rkind_at w X gf (o :: rf) uf h.f h.d)
  have HK2 := hide (rkind_at w X gt (p :: rt) ut h.t h.d)
  simp only [kdR] at HK1 HK2
  have HL1 := hide (rl_at w X gf o rf uf h.f h.d)
  have HL2 := hide fun (Y : World) (hY : CmS w B gf gt gB Y (o :: rf) uf (p :: rt) ut acc) => rl_at w Y gt p rt ut hY.t hY.d
  have HT1 := hide fun (Y : World) (hY : CmS w B gf gt gB Y (o :: rf) uf (p :: rt) ut acc) => (rtake_at w Y gf o rf uf n hY.f hn1 hY.d).mono (R' := fun y Z => y = .returned (.string (strOfNums (txR (o :: rf) uf n))) ∧ CmS w B gf gt gB Z (tkR (o :: rf) uf n).1 (tkR (o :: rf) uf n).2 (p :: rt) ut acc) fun y Z ⟨e, h1, h2⟩ => ⟨e, hY.takeF h1 h2⟩
  have HT2 := hide fun (Y : World) (hY : CmS w B gf gt gB Y (tkR (o :: rf) uf n).1 (tkR (o :: rf) uf n).2 (p :: rt) ut acc) => (rtake_at w Y gt p rt ut n hY.t hn2 hY.d).mono (R' := fun y Z => y = .returned (.string (strOfNums (txR (p :: rt) ut n))) ∧ CmS w B gf gt gB Z (tkR (o :: rf) uf n).1 (tkR (o :: rf) uf n).2 (tkR (p :: rt) ut n).1 (tkR (p :: rt) ut n).2 acc) fun y Z ⟨e, h1, h2⟩ => ⟨e, hY.takeT h1 h2⟩
  have hmin : min ((lfR (o :: rf) uf : Nat) : Int) ((lfR (p :: rt) ut : Nat) : Int) = (n : Int) := by omega
  have hmin2 : min (lfR (o :: rf) uf) (lfR (p :: rt) ut) = n := hn.symm
  clear h hu1 hu2 hs1 l1 l2 hn1 hn2 hn
  have go : ∀ (ok pk : Int), ok = o.k → pk = p.k → (ok = 1 ∨ ok = 2) → (pk = 1 ∨ pk = 3) → Calls Try.prog 56 #[.pointer (some ⟨gf, 0, none⟩), .pointer (some ⟨gt, 0, none⟩), .pointer (some ⟨gB, 0, none⟩)] X fun y X' => y = .returned (.tuple #[]) ∧
      CmS w B gf gt gB X' (tkR (o :: rf) uf n).1 (tkR (o :: rf) uf n).2 (tkR (p :: rt) ut n).1 (tkR (p :: rt) ut n).2 (acc ++ outT ok pk (txR (o :: rf) uf n) n) := by
    intro ok pk e1 e2 k1 k2
    rw [← e1] at HK1
    rw [← e2] at HK2
    clear e1 e2 kf kt
    generalize txR (o :: rf) uf n = tx at *
    generalize txR (p :: rt) ut n = ty at *
    generalize lfR (o :: rf) uf = lf at *
    generalize lfR (p :: rt) ut = lt at *
    generalize (tkR (o :: rf) uf n).1 = rf1 at *
    generalize (tkR (o :: rf) uf n).2 = uf1 at *
    generalize (tkR (p :: rt) ut n).1 = rt1 at *
    generalize (tkR (p :: rt) ut n).2 = ut1 at *
    rcases k1 with rfl | rfl <;> rcases k2 with rfl | rfl
    · have HO : Hid (outT 1 1 tx n = List.replicate n .k) := hide rfl
      go_enter Try.func56, Try.ntmps56
      go_wp2_with fail
      refine (unhide HK1).mono ?_
      rintro y X' ⟨rfl, hX⟩
      subst hX
      dsimp only
      clear HK1
      go_wp2_with fail
      refine (unhide HK2).mono ?_
      rintro y X'' ⟨rfl, hX⟩
      subst hX
      dsimp only
      clear HK2
      go_wp2_with fail
      refine (unhide HL1).mono ?_
      rintro y X1 ⟨rfl, m1, rfl⟩
      dsimp only
      have HS1 := hide ((unhide HS).drewN m1)
      have HL2' := hide (unhide HL2 _ (unhide HS1))
      clear HS HL1 HL2
      generalize X''.drewN m1 = Y1 at *
      go_wp2_with fail
      refine (unhide HL2').mono ?_
      rintro y X2 ⟨rfl, m2, rfl⟩
      dsimp only
      have HS2 := hide ((unhide HS1).drewN m2)
      have HT1' := hide (unhide HT1 _ (unhide HS2))
      clear HS1 HL2' HT1
      generalize Y1.drewN m2 = Y2 at *
      go_wp2_with fail
      try rw [hmin]
      refine (unhide HT1').mono ?_
      rintro y Y3 ⟨rfl, h3⟩
      dsimp only
      have HT2' := hide (unhide HT2 _ h3)
      clear HT1' HT2 h3 HS2
      go_wp2_with fail
      refine (unhide HT2').mono ?_
      rintro y Y4 ⟨rfl, h4⟩
      dsimp only
      have HE := hide (h4.keep n hnb ha)
      clear HT2' h4
      go_wp2_with fail
      refine (unhide HE).mono ?_
      rintro y Y5 ⟨rfl, h5⟩
      dsimp only
      have HF := hide h5
      clear HE h5
      go_wp2_with fail
      exact bodyPost_end (v := .tuple #[]) (results_none Try.results56 _ _ _) rfl ⟨rfl, by rw [unhide HO]; exact unhide HF⟩
    · have HO : Hid (outT 1 3 tx n = List.replicate n .d) := hide rfl
      go_enter Try.func56, Try.ntmps56
      go_wp2_with fail
      refine (unhide HK1).mono ?_
      rintro y X' ⟨rfl, hX⟩
      subst hX
      dsimp only
      clear HK1
      go_wp2_with fail
      refine (unhide HK2).mono ?_
      rintro y X'' ⟨rfl, hX⟩
      subst hX
      dsimp only
      clear HK2
      go_wp2_with fail
      refine (unhide HL1).mono ?_
      rintro y X1 ⟨rfl, m1, rfl⟩
      dsimp only
      have HS1 := hide ((unhide HS).drewN m1)
      have HL2' := hide (unhide HL2 _ (unhide HS1))
      clear HS HL1 HL2
      generalize X''.drewN m1 = Y1 at *
      go_wp2_with fail
      refine (unhide HL2').mono ?_
      rintro y X2 ⟨rfl, m2, rfl⟩
      dsimp only
      have HS2 := hide ((unhide HS1).drewN m2)
      have HT1' := hide (unhide HT1 _ (unhide HS2))
      clear HS1 HL2' HT1
      generalize Y1.drewN m2 = Y2 at *
      go_wp2_with fail
      try rw [hmin]
      refine (unhide HT1').mono ?_
      rintro y Y3 ⟨rfl, h3⟩
      dsimp only
      have HT2' := hide (unhide HT2 _ h3)
      clear HT1' HT2 h3 HS2
      go_wp2_with fail
      refine (unhide HT2').mono ?_
      rintro y Y4 ⟨rfl, h4⟩
      dsimp only
      have HE := hide (h4.drop n hnb ha)
      clear HT2' h4
      go_wp2_with fail
      refine (unhide HE).mono ?_
      rintro y Y5 ⟨rfl, h5⟩
      dsimp only
      have HF := hide h5
      clear HE h5
      go_wp2_with fail
      exact bodyPost_end (v := .tuple #[]) (results_none Try.results56 _ _ _) rfl ⟨rfl, by rw [unhide HO]; exact unhide HF⟩
    · have HO : Hid (outT 2 1 tx n = tx.map .p) := hide rfl
      go_enter Try.func56, Try.ntmps56
      go_wp2_with fail
      refine (unhide HK1).mono ?_
      rintro y X' ⟨rfl, hX⟩
      subst hX
      dsimp only
      clear HK1
      go_wp2_with fail
      refine (unhide HK2).mono ?_
      rintro y X'' ⟨rfl, hX⟩
      subst hX
      dsimp only
      clear HK2
      go_wp2_with fail
      refine (unhide HL1).mono ?_
      rintro y X1 ⟨rfl, m1, rfl⟩
      dsimp only
      have HS1 := hide ((unhide HS).drewN m1)
      have HL2' := hide (unhide HL2 _ (unhide HS1))
      clear HS HL1 HL2
      generalize X''.drewN m1 = Y1 at *
      go_wp2_with fail
      refine (unhide HL2').mono ?_
      rintro y X2 ⟨rfl, m2, rfl⟩
      dsimp only
      have HS2 := hide ((unhide HS1).drewN m2)
      have HT1' := hide (unhide HT1 _ (unhide HS2))
      clear HS1 HL2' HT1
      generalize Y1.drewN m2 = Y2 at *
      go_wp2_with fail
      try rw [hmin]
      refine (unhide HT1').mono ?_
      rintro y Y3 ⟨rfl, h3⟩
      dsimp only
      have HT2' := hide (unhide HT2 _ h3)
      clear HT1' HT2 h3 HS2
      go_wp2_with fail
      refine (unhide HT2').mono ?_
      rintro y Y4 ⟨rfl, h4⟩
      dsimp only
      have HE := hide (h4.put tx ha)
      clear HT2' h4
      go_wp2_with fail
      refine (unhide HE).mono ?_
      rintro y Y5 ⟨rfl, h5⟩
      dsimp only
      have HF := hide h5
      clear HE h5
      go_wp2_with fail
      exact bodyPost_end (v := .tuple #[]) (results_none Try.results56 _ _ _) rfl ⟨rfl, by rw [unhide HO]; exact unhide HF⟩
    · have HO : Hid (outT 2 3 tx n = []) := hide rfl
      go_enter Try.func56, Try.ntmps56
      go_wp2_with fail
      refine (unhide HK1).mono ?_
      rintro y X' ⟨rfl, hX⟩
      subst hX
      dsimp only
      clear HK1
      go_wp2_with fail
      refine (unhide HK2).mono ?_
      rintro y X'' ⟨rfl, hX⟩
      subst hX
      dsimp only
      clear HK2
      go_wp2_with fail
      refine (unhide HL1).mono ?_
      rintro y X1 ⟨rfl, m1, rfl⟩
      dsimp only
      have HS1 := hide ((unhide HS).drewN m1)
      have HL2' := hide (unhide HL2 _ (unhide HS1))
      clear HS HL1 HL2
      generalize X''.drewN m1 = Y1 at *
      go_wp2_with fail
      refine (unhide HL2').mono ?_
      rintro y X2 ⟨rfl, m2, rfl⟩
      dsimp only
      have HS2 := hide ((unhide HS1).drewN m2)
      have HT1' := hide (unhide HT1 _ (unhide HS2))
      clear HS1 HL2' HT1
      generalize Y1.drewN m2 = Y2 at *
      go_wp2_with fail
      try rw [hmin]
      refine (unhide HT1').mono ?_
      rintro y Y3 ⟨rfl, h3⟩
      dsimp only
      have HT2' := hide (unhide HT2 _ h3)
      clear HT1' HT2 h3 HS2
      go_wp2_with fail
      refine (unhide HT2').mono ?_
      rintro y Y4 ⟨rfl, h4⟩
      dsimp only
      have HE := hide h4
      clear HT2' h4
      go_wp2_with fail
      exact bodyPost_end (v := .tuple #[]) (results_none Try.results56 _ _ _) rfl ⟨rfl, by rw [unhide HO, List.append_nil]; exact unhide HE⟩
  exact go o.k p.k rfl rfl kf kt

end Go.Proofs.Ytdemagijhmbdcaa
