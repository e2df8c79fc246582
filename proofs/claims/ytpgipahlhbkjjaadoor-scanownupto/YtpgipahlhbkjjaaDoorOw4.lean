/- ScanOwn: the state between the rounds. -/
import Derived.Test.YtpgipahlhbkjjaaDoorPlaW
namespace Go.Proofs.YtpgipahlhbkjjaaDoor
open Go.ChangeShapes Go.WideShapes Go.ChangeAt Go.RowKit

structure Po (gs gt gr n₁ : Nat) (h : List Int) (fed : Int) (aH : Option Addr) (cH : Nat) (w wx : World) : Prop where
  py : Py gs gr n₁ h fed aH cH w wx
  sct : Sca wx gt h fed
  lo : w.heap.size ≤ gt
  hi : gt < n₁
  ne : gt ≠ gs ∧ gt ≠ gr
section
variable {gs gt gr n₁ g : Nat} {h H : List Int} {fd fd' : Int} {aH a' : Option Addr} {cH c' : Nat} {w wr w2 w3 w4 w5 w6 w7 w10 : World}
theorem Po.mid (p : Po gs gt gr n₁ h fd aH cH w wr) (b2 : Below wr.heap.size wr w2) (f3 : Scf w2.heap.size gs w2 w3) (f4 : Scf w3.heap.size g w3 w4) (hg : wr.heap.size ≤ g) (b5 : Below w4.heap.size w4 w5) :
    Sca w2 gs h fd ∧ Sca w5 gt h fd ∧ IsB w5 aH cH h ∧ Below w.heap.size w w2 ∧ Below w.heap.size w w3 ∧ Below w.heap.size w w4 ∧ Below w.heap.size w w5 := by
  obtain ⟨l1, l2⟩ := p.py.lo
  obtain ⟨h1, h2, h3⟩ := p.py.hi
  have l3 := p.lo
  have h4 := p.hi
  obtain ⟨n1, n2⟩ := p.ne
  have hz := p.py.below.size
  have z2 := b2.size
  have z3 := f3.size
  have z4 := f4.size
  have z5 := b5.size
  have e2 : Below w.heap.size w w2 := p.py.below.trans (b2.mono hz)
  have e3 : Below w.heap.size w w3 := e2.trans ((f3.mono (by omega)).below l1)
  have e4 : Below w.heap.size w w4 := e3.trans ((f4.mono (by omega)).below (by omega))
  have e5 : Below w.heap.size w w5 := e4.trans (b5.mono (by omega))
  refine ⟨p.py.sca.below b2 p.py.sca.lt, ?_, ?_, e2, e3, e4, e5⟩
  · have s2 := p.sct.below b2 p.sct.lt
    have s3 := s2.scf f3 s2.lt n1
    have s4 := s3.scf f4 s3.lt (by omega)
    exact s4.below b5 s4.lt
  · have i2 := p.py.held.below b2 (Nat.le_refl _)
    have i3 : IsB w3 aH cH h := IsB.scf (B := w2.heap.size) (g := gs) i2 f3 (fun x hx => by have := p.py.blk x hx; omega)
    have i4 : IsB w4 aH cH h := IsB.scf (B := w3.heap.size) (g := g) i3 f4 (fun x hx => by have := p.py.blk x hx; omega)
    exact i4.below b5 (Nat.le_refl _)
theorem Po.mid6 (p : Po gs gt gr n₁ h fd aH cH w wr) (b2 : Below wr.heap.size wr w2) (f3 : Scf w2.heap.size gs w2 w3) (f4 : Scf w3.heap.size g w3 w4) (hg : wr.heap.size ≤ g) (b5 : Below w4.heap.size w4 w5) (f6 : Scf w5.heap.size gt w5 w6) :
    IsB w6 aH cH h ∧ Below w.heap.size w w6 ∧ w6.heap[gr]? = some (.cells #[.slice aH h.length cH, .int .i64 (fd - (h.length : Int))] 28 (0, 0)) := by
  obtain ⟨_, _, i5, _, _, _, e5⟩ := p.mid b2 f3 f4 hg b5
  obtain ⟨l1, l2⟩ := p.py.lo
  obtain ⟨h1, h2, h3⟩ := p.py.hi
  have l3 := p.lo
  have h4 := p.hi
  obtain ⟨n1, n2⟩ := p.ne
  have n3 := p.py.ne
  have hz := p.py.below.size
  have z2 := b2.size
  have z3 := f3.size
  have z4 := f4.size
  have z5 := b5.size
  refine ⟨IsB.scf (B := w5.heap.size) (g := gt) i5 f6 (fun x hx => by have := p.py.blk x hx; omega), e5.trans ((f6.mono (by omega)).below l3), ?_⟩
  rw [f6.block gr (by omega) (Ne.symm n2), b5.block gr (by omega), f4.block gr (by omega) (by omega), f3.block gr (by omega) (Ne.symm n3), b2.block gr (by omega)]
  exact p.py.box
theorem Po.next (p : Po gs gt gr n₁ h fd aH cH w wr) (b2 : Below wr.heap.size wr w2) (s3 : Sca w3 gs H fd') (f3 : Scf w2.heap.size gs w2 w3) (f4 : Scf w3.heap.size g w3 w4) (hg : wr.heap.size ≤ g) (b5 : Below w4.heap.size w4 w5) (s6 : Sca w6 gt H fd') (f6 : Scf w5.heap.size gt w5 w6)
    (b7 : Below w6.heap.size w6 w7) (i7 : IsB w7 a' c' H) (k7 : ∀ x, a' = some x → w6.heap.size ≤ x.block ∧ x.block < w7.heap.size) (hH : Hel H) {row : Option Nat} (hrow : ∀ x, row = some x → w2.heap.size ≤ x ∧ x < w3.heap.size)
    (g10 : ((w7.setCell ⟨gr, 0, none⟩ (.slice a' H.length c')).setCell ⟨gr, 1, none⟩ (.int .i64 (fd' - (H.length : Int)))).grownBy w10 row) : Po gs gt gr n₁ H fd' a' c' w w10 := by
  obtain ⟨_, e6, x6⟩ := p.mid6 b2 f3 f4 hg b5 f6
  obtain ⟨l1, l2⟩ := p.py.lo
  obtain ⟨h1, h2, h3⟩ := p.py.hi
  have l3 := p.lo
  have h4 := p.hi
  obtain ⟨n1, n2⟩ := p.ne
  have n3 := p.py.ne
  have hz := p.py.below.size
  have z2 := b2.size
  have z3 := f3.size
  have z4 := f4.size
  have z5 := b5.size
  have z6 := f6.size
  have z7 := b7.size
  have x7 := (b7.block gr (by omega)).trans x6
  have sc : Scf w7.heap.size gr w7 ((w7.setCell ⟨gr, 0, none⟩ (.slice a' H.length c')).setCell ⟨gr, 1, none⟩ (.int .i64 (fd' - (H.length : Int)))) := ((Scf.refl _ gr w7).set 0 _).set 1 _
  have x8 := box2_set x7 (.slice a' H.length c') (.int .i64 (fd' - (H.length : Int)))
  have e7 : Below w.heap.size w w7 := e6.trans (b7.mono (by omega))
  have e8 := e7.trans ((sc.mono (by omega)).below l2)
  have zsc := sc.size
  generalize ((w7.setCell ⟨gr, 0, none⟩ (.slice a' H.length c')).setCell ⟨gr, 1, none⟩ (.int .i64 (fd' - (H.length : Int)))) = w8 at *
  have zg := g10.size
  have keep : ∀ k, k < w8.heap.size → (k < w2.heap.size ∨ w3.heap.size ≤ k) → w10.heap[k]? = w8.heap[k]? := fun k hk hk2 => g10.block k hk (fun e => by have := hrow k e.symm; omega)
  have e10 : Below w.heap.size w w10 := ⟨g10.os.trans e8.os, g10.tape.trans e8.tape, g10.output.trans e8.output, by omega, fun k hk => (keep k (by omega) (Or.inl (by omega))).trans (e8.block k hk)⟩
  refine ⟨⟨?_, (keep gr (by omega) (Or.inl (by omega))).trans x8, ?_, hH, fun x hx => by have := k7 x hx; omega, e10, ⟨l1, l2⟩, ⟨h1, h2, by omega⟩, n3⟩, ?_, l3, h4, ⟨n1, n2⟩⟩
  · refine s3.same (by omega) ?_
    rw [keep gs (by omega) (Or.inl (by omega)), sc.block gs (by omega) n3, b7.block gs (by omega), f6.block gs (by omega) (Ne.symm n1), b5.block gs (by omega), f4.block gs (by omega) (by omega)]
  · have i8 : IsB w8 a' c' H := IsB.scf (B := w7.heap.size) (g := gr) i7 sc (fun x hx => by have := k7 x hx; omega)
    obtain ⟨q1, q2, q3, q4⟩ := i8
    refine ⟨q1, q2, ?_, q4⟩
    rcases q3 with q3 | ⟨g', off', rfl, hL⟩
    · exact Or.inl q3
    · exact Or.inr ⟨g', off', rfl, hL.same (keep g' (by have := k7 _ rfl; simp only at this; omega) (Or.inr (by have := k7 _ rfl; simp only at this; omega)))⟩
  · refine s6.same (by omega) ?_
    rw [keep gt (by omega) (Or.inl (by omega)), sc.block gt (by omega) n2, b7.block gt (by omega)]
/-- the three lists behind the document's Feed -/
theorem Po.lists {ab aw : Option Addr} {ts : List Tri} {va : Value} {Sv Pv : Value} (p : Po gs gt gr n₁ h fd aH cH w wr) (b2 : Below wr.heap.size wr w2) (ra : RT w2.heap.size va ts w3) (f3 : Scf w2.heap.size gs w2 w3) (f4 : Scf w3.heap.size g w3 w4) (hg : wr.heap.size ≤ g ∧ g < w2.heap.size) (b5 : Below w4.heap.size w4 w5)
    (tb : TrisAt w6 ab ts) (kb : ∀ x, ab = some x → w5.heap.size ≤ x.block ∧ x.block < w6.heap.size) (f6 : Scf w5.heap.size gt w5 w6) (b7 : Below w6.heap.size w6 w7) (tw : TrisAt w7 aw ts) (kw : ∀ x, aw = some x → w6.heap.size ≤ x.block ∧ x.block < w7.heap.size) :
    RT w2.heap.size va ts ((w7.setCell ⟨gr, 0, none⟩ Sv).setCell ⟨gr, 1, none⟩ Pv) ∧ TrisAt ((w7.setCell ⟨gr, 0, none⟩ Sv).setCell ⟨gr, 1, none⟩ Pv) ab ts ∧ TrisAt ((w7.setCell ⟨gr, 0, none⟩ Sv).setCell ⟨gr, 1, none⟩ Pv) aw ts := by
  obtain ⟨h1, h2, h3⟩ := p.py.hi
  have h4 := p.hi
  have z2 := b2.size
  have z3 := f3.size
  have z4 := f4.size
  have z5 := b5.size
  have z6 := f6.size
  have z7 := b7.size
  have sc : Scf w7.heap.size gr w7 ((w7.setCell ⟨gr, 0, none⟩ Sv).setCell ⟨gr, 1, none⟩ Pv) := ((Scf.refl _ gr w7).set 0 _).set 1 _
  refine ⟨ra.same fun k hk hk2 => ?_, (tb.below b7).same sc.size (fun x hx => sc.block _ (by have := kb x hx; omega) (by have := kb x hx; omega)), tw.same sc.size (fun x hx => sc.block _ (by have := kw x hx; omega) (by have := kw x hx; omega))⟩
  rw [sc.block k (by omega) (by omega), b7.block k (by omega), f6.block k (by omega) (by omega), b5.block k (by omega), f4.block k (by omega) (by omega)]
theorem IsBB.at4 {W : World} {a0 : Option Addr} {ls : List (List Int)} (h : IsBB W a0 ls) {r : Nat} (hr : r < ls.length) : ∃ g off A C, a0 = some ⟨g, off, none⟩ ∧ g < W.heap.size ∧ W.cell? ⟨g, off + r, none⟩ = some (.slice A (ls.getD r []).length C) ∧ IsB W A C (ls.getD r []) := by
  rcases h with h | ⟨g, off, rfl, hg, hc⟩
  · rw [h] at hr; simp at hr
  · obtain ⟨A, C, h1, h2⟩ := hc r hr
    exact ⟨g, off, A, C, rfl, hg, h1, h2⟩
theorem row_same {W W' : World} {B e size n : Nat} {v : Value} {xs : List Value} (h : W.ownsRow B e size v n xs) (hb : ∀ k, B ≤ k → k < W.heap.size → W'.heap[k]? = W.heap[k]?) : W'.ownsRow B e size v n xs := by
  refine ⟨h.1, ?_⟩
  rcases h.2 with hn | ⟨g, cap, cur, rfl, hB, hgg, rest⟩
  · exact .inl hn
  · exact .inr ⟨g, cap, cur, rfl, hB, (hb g hB (Array.getElem?_eq_some_iff.1 hgg).1).trans hgg, rest⟩
theorem RT.pushl {B : Nat} {v : Value} {ts : List Tri} {W : World} (h : RT B v ts W) (r : Int) (n : Nat) (b : Bool) (hn : ts.length ≤ 4194304) (hB : B ≤ W.heap.size) :
    ∃ g k W', (Builtin.append_ #[30, 30] 30 #[v, .slice (some ⟨W.heap.size, 0, none⟩) 1 1]).run Tryd.prog (W.alloc (.cells #[.int .i32 r, .int .i64 (n : Int), .bool b] 42)) = .ok (.slice (some ⟨g, 0, none⟩) (ts.length + 1) k) W' ∧
      RT B (.slice (some ⟨g, 0, none⟩) (ts.length + 1) k) (ts ++ [(r, n, b)]) W' ∧ (W.alloc (.cells #[.int .i32 r, .int .i64 (n : Int), .bool b] 42)).grownBy W' v.ownBlock ∧ (v.ownBlock = some g ∨ g = W.heap.size + 1) := by
  obtain ⟨i, hi, hz, hs, hby⟩ := info_st
  have hr := World.ownsRow.alloc h (.cells #[.int .i32 r, .int .i64 (n : Int), .bool b] 42)
  obtain ⟨c0, c1, c2⟩ := three_nw W (.int .i32 r) (.int .i64 (n : Int)) (.bool b) (t := 42)
  obtain ⟨g, k, W', hrun, ho, hg, h5, _⟩ := run_append_lies (P := Tryd.prog) (W.alloc (.cells #[.int .i32 r, .int .i64 (n : Int), .bool b] 42)) 30 30 B 42 i (.agg #[.int .i32 0, .int .i64 0, .bool false]) 3 24 Tryd.underlying30 hi hz hs hby rfl (by decide)
    v ts.length (tcs ts) hr ⟨W.heap.size, 0, none⟩ 1 1 [.int .i32 r, .int .i64 (n : Int), .bool b] rfl
    (fun j u hj => by
      match j with
      | 0 => simp at hj; subst hj; rw [Addr.add_lit]; exact c0
      | 1 => simp at hj; subst hj; rw [Addr.add_lit]; exact c1
      | 2 => simp at hj; subst hj; rw [Addr.add_lit]; exact c2
      | j + 3 => simp at hj)
    (fun u hu => by simp at hu; rcases hu with rfl | rfl | rfl <;> rfl) (by decide) (by unfold maxLen; omega) (by omega) (by simp; omega) (W.heap.size + 1) (by simp)
  exact ⟨g, k, W', hrun, by simpa [RT, tcs, tc] using ho, hg, h5⟩
theorem grown_none {W W' : World} (h : W.grownBy W' none) (row : Option Nat) : W.grownBy W' row := ⟨h.os, h.tape, h.output, h.size, fun k hk _ => h.block k hk (by simp)⟩
theorem RT.form {B n c : Nat} {a : Option Addr} {ts : List Tri} {W : World} (h : RT B (.slice a n c) ts W) (hn : 0 < ts.length) : ∃ g, a = some ⟨g, 0, none⟩ ∧ n = ts.length := by
  rcases h.2 with ⟨e, _⟩ | ⟨g, _, _, e, _⟩
  · have := h.1
    rw [tcs_len] at this
    obtain ⟨a', c', e', _⟩ := h.at
    rw [e] at e'
    injection e' with _ e2 _
    omega
  · injection e with e1 e2 _
    exact ⟨g, e1, e2⟩
theorem tris_kept {W W' : World} {a : Option Addr} {ts : List Tri} {row : Option Nat} (t : TrisAt W a ts) (hg : W.grownBy W' row) (hb : ∀ x, a = some x → x.block < W.heap.size ∧ some x.block ≠ row) : TrisAt W' a ts :=
  t.same hg.size (fun x hx => hg.block _ (hb x hx).1 (hb x hx).2)
end
end Go.Proofs.YtpgipahlhbkjjaaDoor
