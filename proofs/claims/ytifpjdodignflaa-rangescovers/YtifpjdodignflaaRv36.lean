/- Layer 16, plain: the order of ranges; lists in order; the document's list beside the map's (Mkg's text, turned). · Layer 16: lists of ranges in memory (Mkh's text, turned). -/
import Derived.Test.YtifpjdodignflaaRv35
import Derived.Lib.Bytealg
import Derived.Test.YtifpjdodignflaaRv17

section
namespace Go.Proofs.Ytifpjdodignflaa

theorem bless_irrefl : ∀ l : List UInt8, Op.bytesLess l l = false
  | [] => rfl
  | a :: l => by simp [Op.bytesLess, bless_irrefl l]
theorem bless_trans : ∀ a b c : List UInt8, Op.bytesLess a b = true → Op.bytesLess b c = true → Op.bytesLess a c = true
  | _, [], _, h, _ => by simp [Op.bytesLess] at h
  | _, _ :: _, [], _, h => by simp [Op.bytesLess] at h
  | [], _ :: _, _ :: _, _, _ => rfl
  | x :: a, y :: b, z :: c, h1, h2 => by
    simp only [Op.bytesLess, Bool.or_eq_true, Bool.and_eq_true, decide_eq_true_eq, beq_iff_eq] at h1 h2 ⊢
    rcases h1 with h1 | ⟨rfl, h1⟩
    · rcases h2 with h2 | ⟨rfl, h2⟩
      · exact .inl (UInt8.lt_trans h1 h2)
      · exact .inl h1
    · rcases h2 with h2 | ⟨rfl, h2⟩
      · exact .inl h2
      · exact .inr ⟨rfl, bless_trans a b c h1 h2⟩
theorem bless_tri : ∀ a b : List UInt8, Op.bytesLess a b = false → Op.bytesLess b a = false → a = b
  | [], [], _, _ => rfl
  | [], _ :: _, h, _ => by simp [Op.bytesLess] at h
  | _ :: _, [], _, h => by simp [Op.bytesLess] at h
  | x :: a, y :: b, h1, h2 => by
    simp only [Op.bytesLess, Bool.or_eq_false_iff, decide_eq_false_iff_not, Bool.and_eq_false_iff, beq_eq_false_iff_ne, ne_eq] at h1 h2
    have e : x = y := UInt8.le_antisymm (UInt8.not_lt.1 h2.1) (UInt8.not_lt.1 h1.1)
    subst e
    have k1 : Op.bytesLess a b = false := by rcases h1.2 with h | h; · exact absurd rfl h
                                             · exact h
    have k2 : Op.bytesLess b a = false := by rcases h2.2 with h | h; · exact absurd rfl h
                                             · exact h
    rw [bless_tri a b k1 k2]
theorem cmpB : ∀ a b : List UInt8, Lib.compareBytes a b = if Op.bytesLess a b then -1 else if Op.bytesLess b a then 1 else 0
  | [], [] => rfl
  | [], _ :: _ => rfl
  | _ :: _, [] => rfl
  | x :: a, y :: b => by
    unfold Lib.compareBytes
    rw [cmpB a b]
    simp only [Op.bytesLess]
    by_cases h1 : x < y
    · simp [h1]
    · by_cases h2 : y < x
      · have : x ≠ y := fun e => by subst e; exact absurd h2 (UInt8.lt_irrefl _)
        simp [h1, h2, this]
      · have e : x = y := UInt8.le_antisymm (UInt8.not_lt.1 h2) (UInt8.not_lt.1 h1)
        subst e
        simp [h1]
/-- which of two ranges is listed first -/
def ltG (a b : Rg) : Bool := decide (a.lo < b.lo) || (decide (a.lo = b.lo) && (decide (a.hi < b.hi) || (decide (a.hi = b.hi) && Op.bytesLess a.n.toList b.n.toList)))
/-- what the program's comparison answers -/
def cmpG (a b : Rg) : Int := if a.lo < b.lo then -1 else if b.lo < a.lo then 1 else if a.hi < b.hi then -1 else if b.hi < a.hi then 1 else Lib.compareBytes a.n.data.toList b.n.data.toList
theorem ltG_iff (a b : Rg) : ltG a b = true ↔ a.lo < b.lo ∨ a.lo = b.lo ∧ (a.hi < b.hi ∨ a.hi = b.hi ∧ Op.bytesLess a.n.toList b.n.toList = true) := by
  simp [ltG]
theorem ltG_not (a b : Rg) : ltG a b = false ↔ b.lo < a.lo ∨ a.lo = b.lo ∧ (b.hi < a.hi ∨ a.hi = b.hi ∧ Op.bytesLess a.n.toList b.n.toList = false) := by
  simp only [ltG, Bool.or_eq_false_iff, decide_eq_false_iff_not, Bool.and_eq_false_iff]
  constructor
  · rintro ⟨h1, h2⟩
    by_cases e : a.lo = b.lo
    · rcases h2 with h2 | ⟨h2, h3⟩
      · exact absurd e h2
      · refine .inr ⟨e, ?_⟩
        by_cases e2 : a.hi = b.hi
        · rcases h3 with h3 | h3
          · exact absurd e2 h3
          · exact .inr ⟨e2, h3⟩
        · exact .inl (by omega)
    · exact .inl (by omega)
  · rintro (h | ⟨h1, h2 | ⟨h2, h3⟩⟩)
    · exact ⟨by omega, .inl (by omega)⟩
    · exact ⟨by omega, .inr ⟨by omega, .inl (by omega)⟩⟩
    · exact ⟨by omega, .inr ⟨by omega, .inr h3⟩⟩
theorem cmpG_neg (a b : Rg) : decide (cmpG a b < 0) = ltG a b := by
  unfold cmpG ltG
  by_cases h1 : a.lo < b.lo
  · simp [h1]
  · by_cases h2 : b.lo < a.lo
    · have : ¬ a.lo = b.lo := by omega
      simp [h1, h2, this]
    · have e : a.lo = b.lo := by omega
      by_cases h3 : a.hi < b.hi
      · simp [e, h3]
      · by_cases h4 : b.hi < a.hi
        · have : ¬ a.hi = b.hi := by omega
          simp [h1, h2, h3, h4, this]
        · have e2 : a.hi = b.hi := by omega
          rw [if_neg h1, if_neg h2, if_neg h3, if_neg h4, cmpB]
          have t : ∀ x : ByteArray, x.data.toList = x.toList := fun x => (Lib.toList_data x).symm
          rw [t, t]
          cases h : Op.bytesLess a.n.toList b.n.toList
          · cases Op.bytesLess b.n.toList a.n.toList <;> simp [e, e2]
          · simp [e, e2]
theorem ltG_irrefl (a : Rg) : ltG a a = false := (ltG_not a a).2 (.inr ⟨rfl, .inr ⟨rfl, bless_irrefl _⟩⟩)
theorem ltG_trans {a b c : Rg} (h1 : ltG a b = true) (h2 : ltG b c = true) : ltG a c = true := by
  rw [ltG_iff] at *
  rcases h1 with h1 | ⟨e1, h1⟩ <;> rcases h2 with h2 | ⟨e2, h2⟩
  · exact .inl (by omega)
  · exact .inl (by omega)
  · exact .inl (by omega)
  · refine .inr ⟨by omega, ?_⟩
    rcases h1 with h1 | ⟨f1, h1⟩ <;> rcases h2 with h2 | ⟨f2, h2⟩
    · exact .inl (by omega)
    · exact .inl (by omega)
    · exact .inl (by omega)
    · exact .inr ⟨by omega, bless_trans _ _ _ h1 h2⟩
theorem bless_ntrans (a b c : List UInt8) (h1 : Op.bytesLess a b = false) (h2 : Op.bytesLess b c = false) : Op.bytesLess a c = false := by
  cases h : Op.bytesLess a c with
  | false => rfl
  | true =>
    cases h3 : Op.bytesLess c b with
    | true => rw [bless_trans _ _ _ h h3] at h1; cases h1
    | false => have := bless_tri b c h2 h3; subst this; rw [h] at h1; cases h1
theorem ltG_ntrans {a b c : Rg} (h1 : ltG a b = false) (h2 : ltG b c = false) : ltG a c = false := by
  rw [ltG_not] at *
  rcases h1 with h1 | ⟨e1, h1⟩ <;> rcases h2 with h2 | ⟨e2, h2⟩
  · exact .inl (by omega)
  · exact .inl (by omega)
  · exact .inl (by omega)
  · refine .inr ⟨by omega, ?_⟩
    rcases h1 with h1 | ⟨f1, h1⟩ <;> rcases h2 with h2 | ⟨f2, h2⟩
    · exact .inl (by omega)
    · exact .inl (by omega)
    · exact .inl (by omega)
    · exact .inr ⟨by omega, bless_ntrans _ _ _ h1 h2⟩
theorem ba_toList {a b : ByteArray} (h : a.toList = b.toList) : a = b := by
  rw [Lib.toList_data, Lib.toList_data] at h
  cases a; cases b
  simp only at h
  rw [Array.toList_inj.1 h]
/-- of two ranges of unlike names one is listed first -/
theorem ltG_tri {a b : Rg} (hn : a.n ≠ b.n) (h : ltG a b = false) : ltG b a = true := by
  rw [ltG_not] at h
  rw [ltG_iff]
  rcases h with h | ⟨e, h⟩
  · exact .inl h
  · refine .inr ⟨e.symm, ?_⟩
    rcases h with h | ⟨e2, h⟩
    · exact .inl h
    · refine .inr ⟨e2.symm, ?_⟩
      cases h2 : Op.bytesLess b.n.toList a.n.toList with
      | true => rfl
      | false => exact absurd (ba_toList (bless_tri _ _ h h2)) hn
def Srt (l : List Rg) : Prop := l.Pairwise fun a b => ltG a b = true
theorem srt_one {A B : List Rg} (hp : A.Perm B) (ha : Srt A) (hb : Srt B) : A = B :=
  List.Perm.eq_of_pairwise (fun a b _ _ h1 h2 => by have := ltG_trans h1 h2; rw [ltG_irrefl] at this; cases this) ha hb hp
def Unl (l : List Rg) : Prop := (l.map (·.n)).Nodup
theorem Unl.perm {A B : List Rg} (h : Unl A) (hp : A.Perm B) : Unl B := (hp.map (fun m : Rg => m.n)).nodup_iff.1 h
/-- a range put into its place -/
def insG (x : Rg) : List Rg → List Rg
  | [] => [x]
  | y :: l => if ltG x y then x :: y :: l else y :: insG x l
theorem ins_perm (x : Rg) : ∀ l : List Rg, (insG x l).Perm (x :: l)
  | [] => List.Perm.refl _
  | y :: l => by
    unfold insG
    split
    · exact List.Perm.refl _
    · exact ((ins_perm x l).cons y).trans (List.Perm.swap x y l)
theorem ins_srt (x : Rg) : ∀ l : List Rg, Srt l → (∀ y ∈ l, y.n ≠ x.n) → Srt (insG x l)
  | [], _, _ => by simp [insG, Srt]
  | y :: l, h, hn => by
    unfold insG
    obtain ⟨h1, h2⟩ := List.pairwise_cons.1 h
    split
    · rename_i hl
      exact List.pairwise_cons.2 ⟨fun z hz => by rcases List.mem_cons.1 hz with rfl | hz; · exact hl
                                                 · exact ltG_trans hl (h1 z hz), h⟩
    · rename_i hl
      have hl' : ltG x y = false := by simpa using hl
      refine List.pairwise_cons.2 ⟨fun z hz => ?_, ins_srt x l h2 fun z hz => hn z (by simp [hz])⟩
      rcases List.mem_cons.1 ((ins_perm x l).mem_iff.1 hz) with rfl | hz
      · exact ltG_tri (fun e => hn y (by simp) e.symm) hl'
      · exact h1 z hz
/-- looking up, by names alone -/
theorem atG_no {s : ByteArray} : ∀ {K : List Rg} {i : Nat}, atG s K i = none → ∀ m ∈ K, m.n ≠ s
  | [], _, _, _, hm => by simp at hm
  | m :: K, i, h, x, hx => by
    unfold atG at h
    split at h
    · cases h
    · rename_i hc
      rcases List.mem_cons.1 hx with rfl | hx
      · exact fun e => hc ((MapKept.bytes_beq _ _).2 e.symm)
      · exact atG_no h x hx
theorem getG_none {s : ByteArray} {K : List Rg} : getG s K = none ↔ ∀ m ∈ K, m.n ≠ s := by
  unfold getG
  rw [Option.map_eq_none_iff]
  exact ⟨atG_no, atG_none⟩
theorem getG_mem {s : ByteArray} {K : List Rg} {x : Rg} (h : getG s K = some x) : x ∈ K ∧ x.n = s := by
  unfold getG at h
  cases ha : atG s K 0 with
  | none => rw [ha] at h; cases h
  | some y =>
    rw [ha] at h
    obtain ⟨j, y⟩ := y
    cases h
    obtain ⟨_, _, h3, h4⟩ := atG_lt s K 0 j _ ha
    exact ⟨List.mem_iff_getElem?.2 ⟨_, h4⟩, h3.symm⟩
theorem unl_one {K : List Rg} (hu : Unl K) {x y : Rg} (hx : x ∈ K) (hy : y ∈ K) (h : x.n = y.n) : x = y := by
  unfold Unl at hu
  induction K with
  | nil => simp at hx
  | cons z K ih =>
    simp only [List.map_cons, List.nodup_cons] at hu
    rcases List.mem_cons.1 hx with rfl | hx' <;> rcases List.mem_cons.1 hy with rfl | hy'
    · rfl
    · exact absurd (List.mem_map.2 ⟨y, hy', h.symm⟩) hu.1
    · exact absurd (List.mem_map.2 ⟨x, hx', h⟩) hu.1
    · exact ih hu.2 hx' hy'
theorem getG_is {s : ByteArray} {K : List Rg} (hu : Unl K) {x : Rg} (hx : x ∈ K) (h : x.n = s) : getG s K = some x := by
  cases hg : getG s K with
  | none => exact absurd h (getG_none.1 hg x hx)
  | some y =>
    obtain ⟨hy, e⟩ := getG_mem hg
    rw [unl_one hu hy hx (e.trans h.symm)]
theorem getG_perm {s : ByteArray} {A B : List Rg} (hp : A.Perm B) (hu : Unl A) : getG s A = getG s B := by
  cases hg : getG s A with
  | none => exact (getG_none.2 fun m hm => getG_none.1 hg m (hp.mem_iff.2 hm)).symm
  | some y =>
    obtain ⟨hy, e⟩ := getG_mem hg
    exact (getG_is (hu.perm hp) (hp.mem_iff.1 hy) e).symm
/-- one that is taken out and put back -/
theorem del_perm {s : ByteArray} {K : List Rg} {x : Rg} (h : getG s K = some x) : K.Perm (x :: delG s K) := by
  unfold getG at h
  unfold delG
  cases ha : atG s K 0 with
  | none => rw [ha] at h; cases h
  | some y =>
    rw [ha] at h
    obtain ⟨j, y⟩ := y
    cases h
    obtain ⟨h1, h2, _, h4⟩ := atG_lt s K 0 j _ ha
    rw [Nat.sub_zero] at h4
    dsimp only
    clear ha h1 h2
    induction K generalizing j with
    | nil => simp at h4
    | cons z K ih =>
      cases j with
      | zero => simp only [List.getElem?_cons_zero, Option.some.injEq] at h4; subst h4; exact List.Perm.refl _
      | succ j =>
        simp only [List.getElem?_cons_succ] at h4
        exact ((ih j h4).cons z).trans (List.Perm.swap _ _ _)
theorem del_no {s : ByteArray} {K : List Rg} (h : getG s K = none) : delG s K = K := by
  unfold getG at h
  rw [Option.map_eq_none_iff] at h
  unfold delG
  rw [h]
theorem del_sub (s : ByteArray) (K : List Rg) : (delG s K).Sublist K := by
  unfold delG
  split
  · exact List.eraseIdx_sublist _ _
  · exact List.Sublist.refl _
theorem del_both {s : ByteArray} {A B : List Rg} (hp : A.Perm B) (hu : Unl A) : (delG s A).Perm (delG s B) := by
  have hg := getG_perm (s := s) hp hu
  cases h : getG s A with
  | none => rw [del_no h, del_no (hg ▸ h)]; exact hp
  | some x => exact ((del_perm h).symm.trans (hp.trans (del_perm (hg ▸ h)))).cons_inv
theorem del_unl {s : ByteArray} {A : List Rg} (hu : Unl A) : Unl (delG s A) := hu.sublist ((del_sub s A).map _)
theorem del_srt {s : ByteArray} {A : List Rg} (h : Srt A) : Srt (delG s A) := List.Pairwise.sublist (del_sub s A) h
theorem del_names {s : ByteArray} {A : List Rg} (hu : Unl A) : ∀ y ∈ delG s A, y.n ≠ s := by
  intro y hy e
  cases h : getG s A with
  | none => exact getG_none.1 h y ((del_sub s A).mem hy) e
  | some x =>
    have hp := hu.perm (del_perm h)
    unfold Unl at hp
    simp only [List.map_cons, List.nodup_cons] at hp
    exact hp.1 (List.mem_map.2 ⟨y, hy, e.trans (getG_mem h).2.symm⟩)
theorem put_perm (x : Rg) (A : List Rg) : (putG x A).Perm (x :: delG x.n A) := by
  unfold putG delG
  cases ha : atG x.n A 0 with
  | none => exact List.perm_append_singleton _ _
  | some y =>
    obtain ⟨j, y⟩ := y
    obtain ⟨h1, h2, _, h4⟩ := atG_lt x.n A 0 j _ ha
    rw [Nat.sub_zero] at h4
    dsimp only
    clear ha h1 h2
    induction A generalizing j with
    | nil => simp at h4
    | cons z K ih =>
      cases j with
      | zero => exact List.Perm.refl _
      | succ j =>
        simp only [List.getElem?_cons_succ] at h4
        exact ((ih j h4).cons z).trans (List.Perm.swap _ _ _)
/-- the document's list beside the map's -/
structure Rel (L D : List Rg) : Prop where
  p : D.Perm L
  s : Srt D
  u : Unl D
theorem Rel.nil : Rel [] [] := ⟨List.Perm.refl _, List.Pairwise.nil, List.nodup_nil⟩
theorem Rel.del {L D : List Rg} (h : Rel L D) (s : ByteArray) : Rel (delG s L) (delG s D) := ⟨del_both h.p h.u, del_srt h.s, del_unl h.u⟩
theorem Rel.put {L D : List Rg} (h : Rel L D) (x : Rg) : Rel (putG x L) (insG x (delG x.n D)) := by
  have hp : (insG x (delG x.n D)).Perm (x :: delG x.n D) := ins_perm _ _
  have hn := del_names (s := x.n) h.u
  refine ⟨(hp.trans ((del_both h.p h.u).cons x)).trans (put_perm x L).symm, ins_srt _ _ (del_srt h.s) hn, ?_⟩
  refine Unl.perm ?_ hp.symm
  unfold Unl
  simp only [List.map_cons, List.nodup_cons]
  refine ⟨fun hm => ?_, del_unl h.u⟩
  obtain ⟨y, hy, e⟩ := List.mem_map.1 hm
  exact hn y hy e
theorem Rel.get {L D : List Rg} (h : Rel L D) (s : ByteArray) : getG s L = getG s D := (getG_perm h.p h.u).symm
theorem Rel.len {L D : List Rg} (h : Rel L D) : L.length = D.length := h.p.length_eq.symm
/-- what a sorted permutation of some of the map's is -/
theorem Rel.some {L D E : List Rg} (h : Rel L D) (q : Rg → Bool) (hE : E.Perm (L.filter q)) (hs : E.Pairwise fun a b => ltG b a = false) : E = D.filter q := by
  have hp : E.Perm (D.filter q) := hE.trans (h.p.filter q).symm
  have hu : Unl E := Unl.perm (h.u.sublist (List.filter_sublist.map _)) hp.symm
  refine srt_one hp ?_ (List.Pairwise.sublist List.filter_sublist h.s)
  unfold Unl at hu
  rw [List.nodup_iff_pairwise_ne, List.pairwise_map] at hu
  exact (hs.and hu).imp fun ⟨h1, h2⟩ => ltG_tri (Ne.symm h2) h1
/-- ranges moved, one by one put into their places -/
def movG (f : Rg → Rg) (D : List Rg) : List Rg := D.foldl (fun o x => insG (f x) o) []
theorem mov_perm (f : Rg → Rg) : ∀ (D o : List Rg), (D.foldl (fun o x => insG (f x) o) o).Perm (o ++ D.map f)
  | [], o => by simp
  | x :: D, o => by
    rw [List.foldl_cons]
    refine (mov_perm f D _).trans ?_
    refine ((ins_perm (f x) o).append_right _).trans ?_
    simp only [List.map_cons]
    exact (List.perm_middle).symm
theorem mov_srt (f : Rg → Rg) (hf : ∀ x, (f x).n = x.n) : ∀ (D o : List Rg), Srt o → Unl (o ++ D) → Srt (D.foldl (fun o x => insG (f x) o) o)
  | [], _, h, _ => h
  | x :: D, o, h, hu => by
    rw [List.foldl_cons]
    have hu' := hu
    unfold Unl at hu'
    rw [List.map_append, List.map_cons, List.nodup_append] at hu'
    refine mov_srt f hf D _ (ins_srt _ _ h fun y hy e => ?_) ?_
    · exact hu'.2.2 y.n (List.mem_map.2 ⟨y, hy, rfl⟩) x.n (by simp) (e.trans (hf x))
    · have hp : ((insG (f x) o ++ D).map (·.n)).Perm ((o ++ x :: D).map (·.n)) := by
        have h1 := ((ins_perm (f x) o).append_right D).map (·.n)
        refine h1.trans ?_
        have h2 := (List.perm_middle (a := x) (l₁ := o) (l₂ := D)).symm.map (·.n)
        simpa [hf] using h2
      exact hp.nodup_iff.2 hu
theorem Rel.mov {L D S : List Rg} (h : Rel L D) (f : Rg → Rg) (hf : ∀ x, (f x).n = x.n) (hS : S.Perm L) : Rel (S.map f) (movG f D) := by
  have hp : (movG f D).Perm (D.map f) := by simpa [movG] using mov_perm f D []
  refine ⟨hp.trans ((h.p.trans hS.symm).map f), mov_srt f hf D [] List.Pairwise.nil (by simpa using h.u), ?_⟩
  refine Unl.perm ?_ hp.symm
  unfold Unl
  have : (D.map f).map (·.n) = D.map (·.n) := by simp [List.map_map, Function.comp_def, hf]
  rw [this]; exact h.u
end Go.Proofs.Ytifpjdodignflaa
end

section
namespace Go.Proofs.Ytifpjdodignflaa
open Go.ChangeShapes Go.WideShapes Go.ChangeAt Go.RowKit
attribute [local go_sem] Oper.semAt_some

def rgZ : Rg := ⟨⟨#[]⟩, 0, 0, 0, 0⟩
instance : Inhabited Rg := ⟨rgZ⟩
/-- a range's five cells -/
def rgL (m : Rg) : List Value := [.string m.n, .int .i64 m.lo, .int .i64 m.hi, .int .i64 m.st, .int .i64 m.en]
def rgsV (l : List Rg) : List Value := l.flatMap rgL
theorem rgL_len (m : Rg) : (rgL m).length = 5 := rfl
theorem rgsV_app (a b : List Rg) : rgsV (a ++ b) = rgsV a ++ rgsV b := by simp [rgsV]
theorem rgsV_one (x : Rg) : rgsV [x] = rgL x := by simp [rgsV]
theorem rgsV_get : ∀ (q : List Rg) (k j : Nat), k < q.length → j < 5 → (rgsV q)[k * 5 + j]? = (rgL (q.getD k rgZ))[j]?
  | [], k, _, hk, _ => absurd hk (by simp)
  | t :: ts, 0, j, _, hj => by
    rw [rgsV, List.flatMap_cons, Nat.zero_mul, Nat.zero_add, List.getElem?_append_left (by simpa [rgL] using hj)]; rfl
  | t :: ts, k + 1, j, hk, hj => by
    have ih := rgsV_get ts k j (by simpa using hk) hj
    rw [rgsV, List.flatMap_cons, List.getElem?_append_right (by simp [rgL]; omega), show (k + 1) * 5 + j - (rgL t).length = k * 5 + j by simp [rgL]; omega]
    simpa [rgsV] using ih
/-- a list of ranges that lies there -/
def IsRl (W : World) (a : Option Addr) (d : List Rg) : Prop := d = [] ∨ ∃ g off, a = some ⟨g, off, none⟩ ∧ g < W.heap.size ∧ ∀ k, k < d.length →
  W.cell? ⟨g, off + k * 5, none⟩ = some (.string (d.getD k rgZ).n) ∧ W.cell? ⟨g, off + k * 5 + 1, none⟩ = some (.int .i64 (d.getD k rgZ).lo) ∧ W.cell? ⟨g, off + k * 5 + 2, none⟩ = some (.int .i64 (d.getD k rgZ).hi) ∧ W.cell? ⟨g, off + k * 5 + 3, none⟩ = some (.int .i64 (d.getD k rgZ).st) ∧ W.cell? ⟨g, off + k * 5 + 4, none⟩ = some (.int .i64 (d.getD k rgZ).en)
theorem IsRl.below {W W' : World} {B : Nat} {a : Option Addr} {d : List Rg} (h : IsRl W a d) (hb : Below B W W') (hB : W.heap.size ≤ B) : IsRl W' a d := by
  rcases h with h | ⟨g, off, rfl, hg, hc⟩
  · exact Or.inl h
  · refine Or.inr ⟨g, off, rfl, Nat.lt_of_lt_of_le hg hb.size, fun k hk => ?_⟩
    obtain ⟨c0, c1, c2, c3, c4⟩ := hc k hk
    exact ⟨(hb.cell (p := ⟨g, off + k * 5, none⟩) (by show g < B; omega)).trans c0, (hb.cell (p := ⟨g, off + k * 5 + 1, none⟩) (by show g < B; omega)).trans c1, (hb.cell (p := ⟨g, off + k * 5 + 2, none⟩) (by show g < B; omega)).trans c2, (hb.cell (p := ⟨g, off + k * 5 + 3, none⟩) (by show g < B; omega)).trans c3, (hb.cell (p := ⟨g, off + k * 5 + 4, none⟩) (by show g < B; omega)).trans c4⟩
theorem IsRl.five {W : World} {a : Option Addr} {d : List Rg} (h : IsRl W a d) {k : Nat} (hk : k < d.length) : ∃ g off, a = some ⟨g, off, none⟩ ∧ g < W.heap.size ∧
    W.cell? ⟨g, off + k * 5, none⟩ = some (.string (d.getD k rgZ).n) ∧ W.cell? ⟨g, off + k * 5 + 1, none⟩ = some (.int .i64 (d.getD k rgZ).lo) ∧ W.cell? ⟨g, off + k * 5 + 2, none⟩ = some (.int .i64 (d.getD k rgZ).hi) ∧ W.cell? ⟨g, off + k * 5 + 3, none⟩ = some (.int .i64 (d.getD k rgZ).st) ∧ W.cell? ⟨g, off + k * 5 + 4, none⟩ = some (.int .i64 (d.getD k rgZ).en) := by
  rcases h with h | ⟨g, off, rfl, hg, hc⟩
  · rw [h] at hk; simp at hk
  · exact ⟨g, off, rfl, hg, hc k hk⟩
theorem own_isRl {W : World} {B : Nat} {v : Value} {d : List Rg} (h : W.ownsRow B 37 5 v d.length (rgsV d)) : ∃ a c, v = .slice a d.length c ∧ IsRl W a d ∧ d.length ≤ c := by
  have hh := h
  rcases h.2 with ⟨rfl, h0⟩ | ⟨g, cap, cur, rfl, hB, hg, hc, hm, hs, ht⟩
  · have : d = [] := List.length_eq_zero_iff.1 h0
    exact ⟨none, 0, by rw [h0], Or.inl this, by omega⟩
  · refine ⟨some ⟨g, 0, none⟩, cap, rfl, Or.inr ⟨g, 0, rfl, (Array.getElem?_eq_some_iff.1 hg).1, fun k hk => ?_⟩, hc⟩
    have f : ∀ j, j < 5 → W.cell? ⟨g, 0 + (k * 5 + j), none⟩ = (rgL (d.getD k rgZ))[j]? := fun j hj => by
      have e := rgsV_get d k j hk hj
      obtain ⟨u, hu⟩ : ∃ u, (rgL (d.getD k rgZ))[j]? = some u := ⟨_, List.getElem?_eq_getElem (by simpa [rgL] using hj)⟩
      rw [hu] at e ⊢
      have := World.ownsRow.cells hh rfl (k * 5 + j) u e
      rwa [Addr.add_lit] at this
    exact ⟨f 0 (by decide), f 1 (by decide), f 2 (by decide), f 3 (by decide), f 4 (by decide)⟩
theorem rowD_base {X : World} {B B' sz n : Nat} {t : TypeId} {v : Value} {xs : List Value} (h : X.ownsRow B t sz v n xs) (hB : B' ≤ B) : X.ownsRow B' t sz v n xs := by
  refine ⟨h.1, ?_⟩
  rcases h.2 with h2 | ⟨g, cap, cur, e, h3, h4⟩
  · exact Or.inl h2
  · exact Or.inr ⟨g, cap, cur, e, Nat.le_trans hB h3, h4⟩
set_option maxRecDepth 100000 in
theorem info_rg : ∃ i, Try.prog.info? 37 = some i ∧ i.zero = some (.agg #[.string ⟨#[]⟩, .int .i64 0, .int .i64 0, .int .i64 0, .int .i64 0]) ∧ i.size = 5 ∧ i.bytes = 48 := by
  refine ⟨_, rfl, ?_, ?_, ?_⟩ <;> rfl
theorem five_nw (W : World) (v0 v1 v2 v3 v4 : Value) {t : TypeId} :
    (W.alloc (.cells #[v0, v1, v2, v3, v4] t)).cell? ⟨W.heap.size, 0, none⟩ = some v0 ∧ (W.alloc (.cells #[v0, v1, v2, v3, v4] t)).cell? ⟨W.heap.size, 1, none⟩ = some v1 ∧ (W.alloc (.cells #[v0, v1, v2, v3, v4] t)).cell? ⟨W.heap.size, 2, none⟩ = some v2 ∧ (W.alloc (.cells #[v0, v1, v2, v3, v4] t)).cell? ⟨W.heap.size, 3, none⟩ = some v3 ∧ (W.alloc (.cells #[v0, v1, v2, v3, v4] t)).cell? ⟨W.heap.size, 4, none⟩ = some v4 := by
  have k := Cls.new W t #[v0, v1, v2, v3, v4]
  exact ⟨(k.cell 0).trans rfl, (k.cell 1).trans rfl, (k.cell 2).trans rfl, (k.cell 3).trans rfl, (k.cell 4).trans rfl⟩
/-- one more range -/
theorem push_rg (W : World) (B n : Nat) (v : Value) (xs : List Value) (s : ByteArray) (a b c e : Int) (ty : TypeId) (h : W.ownsRow B 37 5 v n xs) (hn : n ≤ 1099511627776) (hB : B ≤ W.heap.size) :
    ∃ g k W', (Builtin.append_ #[28, 28] ty #[v, .slice (some ⟨W.heap.size, 0, none⟩) 1 1]).run Try.prog (W.alloc (.cells #[.string s, .int .i64 a, .int .i64 b, .int .i64 c, .int .i64 e] 37)) = .ok (.slice (some ⟨g, 0, none⟩) (n + 1) k) W' ∧
      W'.ownsRow B 37 5 (.slice (some ⟨g, 0, none⟩) (n + 1) k) (n + 1) (xs ++ [.string s, .int .i64 a, .int .i64 b, .int .i64 c, .int .i64 e]) ∧ W.grownBy W' v.ownBlock ∧ Below B W W' := by
  obtain ⟨i, hi, hz, hs, hby⟩ := info_rg
  have hr := World.ownsRow.alloc h (.cells #[.string s, .int .i64 a, .int .i64 b, .int .i64 c, .int .i64 e] 37)
  obtain ⟨c0, c1, c2, c3, c4⟩ := five_nw W (.string s) (.int .i64 a) (.int .i64 b) (.int .i64 c) (.int .i64 e) (t := 37)
  obtain ⟨g, k, W', hrun, ho, hg, _, _⟩ := run_append_lies (P := Try.prog) (W.alloc (.cells #[.string s, .int .i64 a, .int .i64 b, .int .i64 c, .int .i64 e] 37)) 28 ty B 37 i (.agg #[.string ⟨#[]⟩, .int .i64 0, .int .i64 0, .int .i64 0, .int .i64 0]) 5 48 Try.underlying28 hi hz hs hby rfl (by decide)
    v n xs hr ⟨W.heap.size, 0, none⟩ 1 1 [.string s, .int .i64 a, .int .i64 b, .int .i64 c, .int .i64 e] rfl
    (fun j u hj => by
      match j with
      | 0 => simp at hj; subst hj; rw [Addr.add_lit]; exact c0
      | 1 => simp at hj; subst hj; rw [Addr.add_lit]; exact c1
      | 2 => simp at hj; subst hj; rw [Addr.add_lit]; exact c2
      | 3 => simp at hj; subst hj; rw [Addr.add_lit]; exact c3
      | 4 => simp at hj; subst hj; rw [Addr.add_lit]; exact c4
      | j + 5 => simp at hj)
    (fun u hu => by simp at hu; rcases hu with rfl | rfl | rfl | rfl | rfl <;> rfl) (by decide) (by unfold maxLen; omega) (by omega) (by simp; omega) _ rfl
  have ha := World.grownBy_alloc W (.cells #[.string s, .int .i64 a, .int .i64 b, .int .i64 c, .int .i64 e] 37) none
  refine ⟨g, k, W', hrun, ho, ⟨hg.os.trans ha.os, hg.tape.trans ha.tape, hg.output.trans ha.output, Nat.le_trans ha.size hg.size, fun k hk hne => ?_⟩, ((Below.refl B W).alloc hB _).grown hg (by simp; omega) (fun k hk => (hr.lt k hk).1)⟩
  exact (hg.block k (Nat.lt_of_lt_of_le hk ha.size) hne).trans (ha.block k hk (by simp))
end Go.Proofs.Ytifpjdodignflaa
end
