/- Layer 15: the marks of MarksMany (plain); the law's beginning. · Layer 15: a script of acts in memory (written by wip/tools/mkx.py). -/
import Derived.Test.YtfllomlighlejaaMo36
import Derived.Test.YtfllomlighlejaaMo03
import Derived.Test.YtfllomlighlejaaMo06
import Derived.Test.YtfllomlighlejaaMo46

section
namespace Go.Proofs.Ytfllomlighlejaa
open Go.ChangeShapes Go.WideShapes Go.ChangeAt Go.RowKit
attribute [local go_sem] Oper.semAt_some

set_option maxRecDepth 100000 in
set_option maxHeartbeats 2000000 in
theorem beginE_at (n : Int) (X : World) (h : ¬ (0 ≤ n ∧ n ≤ 268435456)) :
    Calls Try.prog 21 #[.int .i64 n] X fun y X' => y = .returned (.tuple #[.pointer none, .bool false, .bool true]) ∧ Below X.heap.size X X' := by
  have H1 := hide (MNewE_at n X h)
  by_cases h1 : n < 0
  · have t1 : decide (n < 0) = true := decide_eq_true h1
    clear h1 h
    go_enter Try.func21, Try.ntmps21
    go_wp2_with fail
    refine (unhide H1).mono ?_
    rintro y w1 ⟨rfl, x1⟩
    dsimp only
    have HX := hide x1
    clear H1 x1
    go_wp2_with fail
    refine bodyPost_ret (results_tmp3 rfl _ _) rfl ⟨rfl, unhide HX⟩
  · have t1 : decide (n < 0) = false := decide_eq_false h1
    have h2 : n > 268435456 := by omega
    have t2 : decide (n > 268435456) = true := decide_eq_true h2
    have t2' : decide (268435456 < n) = true := decide_eq_true h2
    clear h1 h2 h
    go_enter Try.func21, Try.ntmps21
    go_wp2_with fail
    refine (unhide H1).mono ?_
    rintro y w1 ⟨rfl, x1⟩
    dsimp only
    have HX := hide x1
    clear H1 x1
    go_wp2_with fail
    refine bodyPost_ret (results_tmp3 rfl _ _) rfl ⟨rfl, unhide HX⟩
set_option maxRecDepth 100000 in
set_option maxHeartbeats 2000000 in
theorem begin_at (n : Int) (X : World) (h : 0 ≤ n ∧ n ≤ 268435456) :
    Calls Try.prog 21 #[.int .i64 n] X fun y X' => ∃ g, y = .returned (.tuple #[.pointer (some ⟨g, 0, none⟩), .bool true, .bool true]) ∧ IsMs X' g n [] ∧ Below X.heap.size X X' := by
  have H1 := hide (MNew_at n X h)
  have H2 := hide fun (Y : World) (g : Nat) (hh : IsMs Y g n []) => MLen_at g n [] Y hh
  have H3 := hide fun (Y : World) (g : Nat) (hh : IsMs Y g n []) => MList_at g n [] Y hh (by simp)
  have t1 : decide (n < 0) = false := decide_eq_false (by omega)
  have t2 : decide (n > 268435456) = false := decide_eq_false (by omega)
  have t2' : decide (268435456 < n) = false := decide_eq_false (by omega)
  clear h
  go_enter Try.func21, Try.ntmps21
  go_wp2_with fail
  refine (unhide H1).mono ?_
  rintro y w1 ⟨g, rfl, _, s1, x1⟩
  dsimp only
  have HX1 := hide x1
  have HS1 := hide s1
  have HC2 := hide (unhide H2 w1 g s1)
  clear H1 H2 s1 x1
  go_wp2_with fail
  refine (unhide HC2).mono ?_
  rintro y w2 ⟨rfl, x2⟩
  dsimp only
  have HX2 := hide ((unhide HX1).trans (x2.mono (unhide HX1).size))
  have s2 := (unhide HS1).below x2 (Nat.le_refl _)
  have HS2 := hide s2
  have HC3 := hide (unhide H3 w2 g s2)
  clear HC2 HX1 HS1 s2 x2 H3
  go_wp2_with fail
  refine (unhide HC3).mono ?_
  rintro y w3 ⟨a, c, E, rfl, hp, _, _, x3⟩
  dsimp only
  obtain rfl : E = [] := List.perm_nil.1 hp
  have HX3 := hide ((unhide HX2).trans (x3.mono (unhide HX2).size))
  have HS3 := hide ((unhide HS2).below x3 (Nat.le_refl _))
  clear HC3 HX2 HS2 hp x3
  go_wp2_with fail
  refine bodyPost_ret (results_tmp3 rfl _ _) rfl ?_
  exact ⟨g, rfl, unhide HS3, unhide HX3⟩
/-- the marks that MarksMany sets -/
def nmN (j : Nat) : List Int := [((j / 256 : Nat) : Int), ((j % 256 : Nat) : Int)]
def mkm (j : Nat) : Mk := ⟨strOfNums (nmN j), ((j % 5 : Nat) : Int), 1⟩
def mny (i : Nat) : List Mk := (List.range i).map mkm
theorem mny_s (i : Nat) : mny (i + 1) = mny i ++ [mkm i] := by simp [mny, List.range_succ]
theorem mny_len (i : Nat) : (mny i).length = i := by simp [mny]
theorem nmN_tb {j : Nat} (h : j < 65536) : ∀ x ∈ nmN j, 0 ≤ x ∧ x ≤ 255 := by
  intro x hx
  simp only [nmN, List.mem_cons, List.not_mem_nil, or_false] at hx
  rcases hx with rfl | rfl <;> omega
theorem nm_inj {i j : Nat} (hi : i < 65536) (hj : j < 65536) (h : strOfNums (nmN i) = strOfNums (nmN j)) : i = j := by
  have e := str_beq (nmN_tb hi) (nmN_tb hj)
  rw [h] at e
  have e2 : nmN i = nmN j := by simpa using e.symm
  simp only [nmN, List.cons.injEq, and_true] at e2
  omega
theorem mny_get {i : Nat} (hi : i < 65536) : getM (mkm i).n (mny i) = none := getM_none.2 fun m hm e => by
  obtain ⟨j, hj, rfl⟩ := List.mem_map.1 hm
  have hj' := List.mem_range.1 hj
  have := nm_inj (by omega) hi e
  omega
theorem mny_put {i : Nat} (hi : i < 65536) : putM (mkm i) (mny i) = mny (i + 1) := by
  have h := mny_get hi
  unfold getM at h
  rw [Option.map_eq_none_iff] at h
  unfold putM
  rw [h, mny_s]
theorem mny_ref {i : Nat} (hi : i < 1024) : refM 4 (mny i) (mkm i) = 0 := by
  unfold refM
  have hs : (mkm i).n.size = 2 := strOfNums_size _
  rw [if_neg (by omega), if_neg, if_neg]
  · rw [mny_len]; omega
  · have : (mkm i).p = ((i % 5 : Nat) : Int) := rfl
    have hg : (mkm i).g = 1 := rfl
    rw [this, hg]; omega
def mnA : Mk := ⟨⟨#[97]⟩, 4, 1⟩
def mnB : Mk := ⟨strOfNums (nmN 1023), 4, 2⟩
theorem one_names {i : Nat} : ∀ m ∈ mny i, m.n ≠ ⟨#[97]⟩ := by
  intro m hm e
  obtain ⟨j, _, rfl⟩ := List.mem_map.1 hm
  have h1 : (mkm j).n.size = 2 := strOfNums_size _
  rw [e] at h1
  cases h1
theorem mnA_ref : refM 4 (mny 1024) mnA = 121 := by
  unfold refM
  have hn : getM mnA.n (mny 1024) = none := getM_none.2 one_names
  rw [hn, mny_len]
  rfl
theorem mny_unl (i : Nat) (hi : i ≤ 65536) : Unl (mny i) := by
  induction i with
  | zero => exact List.nodup_nil
  | succ i ih =>
    have := ih (by omega)
    unfold Unl at this ⊢
    rw [mny_s, List.map_append, List.nodup_append]
    refine ⟨this, by simp, fun a ha b hb => ?_⟩
    simp only [List.map_cons, List.map_nil, List.mem_singleton] at hb
    obtain ⟨m, hm, rfl⟩ := List.mem_map.1 ha
    rw [hb]
    exact getM_none.1 (mny_get (by omega)) m hm
theorem mnB_get : getM mnB.n (mny 1024) = some (mkm 1023) := getM_is (mny_unl 1024 (by omega)) (List.mem_map.2 ⟨1023, List.mem_range.2 (by omega), rfl⟩) rfl
theorem mnB_ref : refM 4 (mny 1024) mnB = 0 := by
  unfold refM
  have hs : mnB.n.size = 2 := strOfNums_size _
  rw [if_neg (by omega), if_neg (by show ¬ ((4 : Int) < 0 ∨ (4 : Int) < 4 ∨ ¬ ((2 : Int) = 1 ∨ (2 : Int) = 2)); omega), if_neg]
  rw [mnB_get]; simp
/-- with the last one's place turned -/
def mn2 : List Mk := putM mnB (mny 1024)
theorem mn2_perm : mn2.Perm (mnB :: delM mnB.n (mny 1024)) := put_perm _ _
theorem mn2_get : getM mnB.n mn2 = some mnB := by
  have hu : Unl mn2 := by
    refine Unl.perm ?_ mn2_perm.symm
    unfold Unl
    simp only [List.map_cons, List.nodup_cons]
    refine ⟨fun hm => ?_, del_unl (mny_unl 1024 (by omega))⟩
    obtain ⟨y, hy, e⟩ := List.mem_map.1 hm
    exact del_names (mny_unl 1024 (by omega)) y hy e
  exact getM_is hu (mn2_perm.mem_iff.2 (by simp)) rfl
def mn3 : List Mk := delM mnB.n mn2
theorem mn2_len : mn2.length = 1024 := by
  have h1 := mn2_perm.length_eq
  have h2 := (del_perm mnB_get).length_eq
  rw [mny_len] at h2
  simp only [List.length_cons] at h1 h2
  omega
theorem mn3_len : mn3.length = 1023 := by
  have h2 := (del_perm mn2_get).length_eq
  rw [mn2_len] at h2
  simp only [List.length_cons] at h2
  unfold mn3
  omega
theorem mn3_mem {m : Mk} (h : m ∈ mn3) : m = mnB ∨ m ∈ mny 1024 := by
  have h1 := (del_sub _ _).mem h
  rcases List.mem_cons.1 (mn2_perm.mem_iff.1 h1) with h2 | h2
  · exact .inl h2
  · exact .inr ((del_sub _ _).mem h2)
theorem mn3_get : getM mnA.n mn3 = none := getM_none.2 fun m hm e => by
  rcases mn3_mem hm with rfl | hm
  · have h1 : mnB.n.size = 2 := strOfNums_size _
    rw [e] at h1
    cases h1
  · exact one_names m hm e
theorem mn3_ref : refM 4 mn3 mnA = 0 := by
  unfold refM
  have h3 := mn3_len
  rw [if_neg (by decide), if_neg (by decide), if_neg (by omega)]
def mn4 : List Mk := putM mnA mn3
theorem mn4_len : mn4.length = 1024 := by
  have h1 := (put_perm mnA mn3).length_eq
  rw [del_no mn3_get, List.length_cons, mn3_len] at h1
  exact h1
theorem mny_in {i : Nat} : (mny i).filter (inM 0 4) = mny i := List.filter_eq_self.2 fun m hm => by
  obtain ⟨j, _, rfl⟩ := List.mem_map.1 hm
  have : (mkm j).p = ((j % 5 : Nat) : Int) := rfl
  unfold inM
  rw [this]
  simp only [Bool.and_eq_true, decide_eq_true_eq]
  omega
theorem mn4_in : mn4.filter (inM 0 4) = mn4 := List.filter_eq_self.2 fun m hm => by
  have h1 := (put_perm mnA mn3).mem_iff.1 hm
  rw [del_no mn3_get] at h1
  rcases List.mem_cons.1 h1 with rfl | h1
  · rfl
  · rcases mn3_mem h1 with rfl | h1
    · rfl
    · exact (List.filter_eq_self.1 (mny_in (i := 1024))) m h1
end Go.Proofs.Ytfllomlighlejaa
end

section
namespace Go.Proofs.Ytfllomlighlejaa
open Go.ChangeShapes Go.WideShapes Go.ChangeAt Go.RowKit
attribute [local go_sem] Oper.semAt_some

/-- an act: its kind, its mark, its delta -/
structure Ac where
  k : Int
  x : Mk
  a : Option Addr
  c : Nat
  d : List Dop
def acZ : Ac := ⟨0, mkZ, none, 0, []⟩
instance : Inhabited Ac := ⟨acZ⟩
def acL (q : Ac) : List Value := [.int .i64 q.k, .string q.x.n, .int .i64 q.x.p, .int .i64 q.x.g, .slice q.a q.d.length q.c]
structure AcI (W : World) (y : Ac) : Prop where
  o : IsO W y.a y.d
  z : y.d = [] ∨ ∃ q, y.a = some q
  l : y.d.length ≤ 1048576
  t : ∀ o ∈ y.d, TbD o ∧ o.t.length ≤ 1048576
theorem AcI.tx {W : World} {y : Ac} (h : AcI W y) : txD y.d ≤ 1099511627776 := by
  have h1 := txD_le (d := y.d) (fun o ho => (h.t o ho).2)
  have h2 := h.l
  have h3 : y.d.length * 1048576 ≤ 1048576 * 1048576 := Nat.mul_le_mul_right _ h2
  omega
/-- a list of acts that lies there -/
def IsAc (W : World) (a : Option Addr) (l : List Ac) : Prop := (∀ y ∈ l, AcI W y) ∧ (l = [] ∨ ∃ g off, a = some ⟨g, off, none⟩ ∧ g < W.heap.size ∧ ∀ k, k < l.length → ∀ j, j < 5 → W.cell? ⟨g, off + k * 5 + j, none⟩ = (acL (l.getD k acZ))[j]?)
theorem AcI.below {W W' : World} {y : Ac} (h : AcI W y) (hb : Below W.heap.size W W') : AcI W' y := ⟨h.o.below hb (Nat.le_refl _), h.z, h.l, h.t⟩
theorem IsAc.at {W : World} {a : Option Addr} {l : List Ac} (h : IsAc W a l) {k : Nat} (hk : k < l.length) {W' : World} (hb : Below W.heap.size W W') : AcI W' (l.getD k acZ) ∧ ∃ g off, a = some ⟨g, off, none⟩ ∧ g < W.heap.size ∧ ∀ j, j < 5 → W'.cell? ⟨g, off + k * 5 + j, none⟩ = (acL (l.getD k acZ))[j]? := by
  have hm : l.getD k acZ ∈ l := by rw [List.getD_eq_getElem?_getD, List.getElem?_eq_getElem hk]; exact List.getElem_mem hk
  refine ⟨(h.1 _ hm).below hb, ?_⟩
  rcases h.2 with h2 | ⟨g, off, e, hg, hc⟩
  · rw [h2] at hk; simp at hk
  · exact ⟨g, off, e, hg, fun j hj => (hb.cell (p := ⟨g, off + k * 5 + j, none⟩) hg).trans (hc k hk j hj)⟩
/-- what a script keeps: both states, and the document's in its block -/
structure ScJ (w wx : World) (G g : Nat) (n : Int) (L : List Mk) (a : Option Addr) (c : Nat) (D : List Mk) : Prop where
  s : StM wx g n L a D
  k : Cls wx G 29 #[.int .i64 n, .slice a D.length c]
  b : Below w.heap.size w wx
  g : w.heap.size ≤ G
theorem ScJ.on {w wx wy : World} {G g : Nat} {n : Int} {L : List Mk} {a : Option Addr} {c : Nat} {D : List Mk} (h : ScJ w wx G g n L a c D) (hb : Below wx.heap.size wx wy) : ScJ w wy G g n L a c D := ⟨h.s.below hb, h.k.below hb h.k.lt, h.b.trans (hb.mono h.b.size), h.g⟩
/-- the list of the program's marks is the document's -/
theorem StM.list {X : World} {g : Nat} {n : Int} {L : List Mk} {a : Option Addr} {D : List Mk} (h : StM X g n L a D) {E : List Mk} (hE : E.Perm (L.filter (inM 0 n))) (hs : E.Pairwise fun a b => ltM b a = false) : E = D := (h.r.some (inM 0 n) hE hs).trans h.p.all
theorem StM.len {X : World} {g : Nat} {n : Int} {L : List Mk} {a : Option Addr} {D : List Mk} (h : StM X g n L a D) : L.length ≤ 1048576 := by rw [h.r.len]; exact Nat.le_trans h.l (by omega)
end Go.Proofs.Ytfllomlighlejaa
end
