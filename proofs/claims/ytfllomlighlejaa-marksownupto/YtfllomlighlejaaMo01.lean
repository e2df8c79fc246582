/- Layer 15, plain: the order of marks; lists in order; the document's list beside the map's. -/
import Derived.Test.YtfllomlighlejaaMo00
import Derived.Lib.Bytealg

namespace Go.Proofs.Ytfllomlighlejaa

theorem bless_irrefl : ∀ l : List UInt8, Op.bytesLess l l = false
  | [] => rfl
  | a :: l => by simp [Op.bytesLess, bless_irrefl l]
theorem bless_trans : ∀ a b c : List UInt8, Op.bytesLess a b = true → Op.bytesLess b c = true → Op.bytesLess a c = true
  | _, [], _, h, _ => by simp [Op.bytesLess] at h
  | _, _ :: _, [], _, h => by simp [Op.bytesLess] at h
  | [], _ :: _, _ :: _, _, _ => rfl
  | x :: a, y :: b, z :: c, h1, h2 => by
    simp only [Op.bytesLess, Bool.or_eq_true, Bool.and_eq_true, decide_eq_true_eq, beq_iff_eq] at h1 h2 ⊢
    rcases h1 with h1 | ⟨rfl, h1⟩
    · rcases h2 with h2 | ⟨rfl, h2⟩
      · exact .inl (UInt8.lt_trans h1 h2)
      · exact .inl h1
    · rcases h2 with h2 | ⟨rfl, h2⟩
      · exact .inl h2
      · exact .inr ⟨rfl, bless_trans a b c h1 h2⟩
theorem bless_tri : ∀ a b : List UInt8, Op.bytesLess a b = false → Op.bytesLess b a = false → a = b
  | [], [], _, _ => rfl
  | [], _ :: _, h, _ => by simp [Op.bytesLess] at h
  | _ :: _, [], _, h => by simp [Op.bytesLess] at h
  | x :: a, y :: b, h1, h2 => by
    simp only [Op.bytesLess, Bool.or_eq_false_iff, decide_eq_false_iff_not, Bool.and_eq_false_iff, beq_eq_false_iff_ne, ne_eq] at h1 h2
    have e : x = y := UInt8.le_antisymm (UInt8.not_lt.1 h2.1) (UInt8.not_lt.1 h1.1)
    subst e
    have k1 : Op.bytesLess a b = false := by rcases h1.2 with h | h; · exact absurd rfl h
                                             · exact h
    have k2 : Op.bytesLess b a = false := by rcases h2.2 with h | h; · exact absurd rfl h
                                             · exact h
    rw [bless_tri a b k1 k2]
theorem cmpB : ∀ a b : List UInt8, Lib.compareBytes a b = if Op.bytesLess a b then -1 else if Op.bytesLess b a then 1 else 0
  | [], [] => rfl
  | [], _ :: _ => rfl
  | _ :: _, [] => rfl
  | x :: a, y :: b => by
    unfold Lib.compareBytes
    rw [cmpB a b]
    simp only [Op.bytesLess]
    by_cases h1 : x < y
    · simp [h1]
    · by_cases h2 : y < x
      · have : x ≠ y := fun e => by subst e; exact absurd h2 (UInt8.lt_irrefl _)
        simp [h1, h2, this]
      · have e : x = y := UInt8.le_antisymm (UInt8.not_lt.1 h2) (UInt8.not_lt.1 h1)
        subst e
        simp [h1]
/-- which of two marks is listed first -/
def ltM (a b : Mk) : Bool := decide (a.p < b.p) || (decide (a.p = b.p) && Op.bytesLess a.n.toList b.n.toList)
/-- what the program's comparison answers -/
def cmpM (a b : Mk) : Int := if a.p < b.p then -1 else if b.p < a.p then 1 else Lib.compareBytes a.n.data.toList b.n.data.toList
theorem ltM_iff (a b : Mk) : ltM a b = true ↔ a.p < b.p ∨ a.p = b.p ∧ Op.bytesLess a.n.toList b.n.toList = true := by
  simp [ltM]
theorem ltM_not (a b : Mk) : ltM a b = false ↔ b.p < a.p ∨ a.p = b.p ∧ Op.bytesLess a.n.toList b.n.toList = false := by
  simp only [ltM, Bool.or_eq_false_iff, decide_eq_false_iff_not, Bool.and_eq_false_iff]
  constructor
  · rintro ⟨h1, h2 | h2⟩
    · exact .inl (by omega)
    · by_cases e : a.p = b.p
      · exact .inr ⟨e, h2⟩
      · exact .inl (by omega)
  · rintro (h | ⟨h1, h2⟩)
    · exact ⟨by omega, .inl (by omega)⟩
    · exact ⟨by omega, .inr h2⟩
theorem cmpM_neg (a b : Mk) : decide (cmpM a b < 0) = ltM a b := by
  unfold cmpM ltM
  by_cases h1 : a.p < b.p
  · simp [h1]
  · by_cases h2 : b.p < a.p
    · have : ¬ a.p = b.p := by omega
      simp [h1, h2, this]
    · have e : a.p = b.p := by omega
      rw [if_neg h1, if_neg h2, cmpB]
      have t : ∀ x : ByteArray, x.data.toList = x.toList := fun x => (Lib.toList_data x).symm
      rw [t, t]
      cases h : Op.bytesLess a.n.toList b.n.toList
      · cases Op.bytesLess b.n.toList a.n.toList <;> simp [e]
      · simp [e]
theorem ltM_irrefl (a : Mk) : ltM a a = false := (ltM_not a a).2 (.inr ⟨rfl, bless_irrefl _⟩)
theorem ltM_trans {a b c : Mk} (h1 : ltM a b = true) (h2 : ltM b c = true) : ltM a c = true := by
  rw [ltM_iff] at *
  rcases h1 with h1 | ⟨e1, h1⟩ <;> rcases h2 with h2 | ⟨e2, h2⟩
  · exact .inl (by omega)
  · exact .inl (by omega)
  · exact .inl (by omega)
  · exact .inr ⟨by omega, bless_trans _ _ _ h1 h2⟩
theorem bless_ntrans (a b c : List UInt8) (h1 : Op.bytesLess a b = false) (h2 : Op.bytesLess b c = false) : Op.bytesLess a c = false := by
  cases h : Op.bytesLess a c with
  | false => rfl
  | true =>
    cases h3 : Op.bytesLess c b with
    | true => rw [bless_trans _ _ _ h h3] at h1; cases h1
    | false => have := bless_tri b c h2 h3; subst this; rw [h] at h1; cases h1
theorem ltM_ntrans {a b c : Mk} (h1 : ltM a b = false) (h2 : ltM b c = false) : ltM a c = false := by
  rw [ltM_not] at *
  rcases h1 with h1 | ⟨e1, h1⟩ <;> rcases h2 with h2 | ⟨e2, h2⟩
  · exact .inl (by omega)
  · exact .inl (by omega)
  · exact .inl (by omega)
  · exact .inr ⟨by omega, bless_ntrans _ _ _ h1 h2⟩
theorem ba_toList {a b : ByteArray} (h : a.toList = b.toList) : a = b := by
  rw [Lib.toList_data, Lib.toList_data] at h
  cases a; cases b
  simp only at h
  rw [Array.toList_inj.1 h]
/-- of two marks of unlike names one is listed first -/
theorem ltM_tri {a b : Mk} (hn : a.n ≠ b.n) (h : ltM a b = false) : ltM b a = true := by
  rw [ltM_not] at h
  rw [ltM_iff]
  rcases h with h | ⟨e, h⟩
  · exact .inl h
  · refine .inr ⟨e.symm, ?_⟩
    cases h2 : Op.bytesLess b.n.toList a.n.toList with
    | true => rfl
    | false => exact absurd (ba_toList (bless_tri _ _ h h2)) hn
def Srt (l : List Mk) : Prop := l.Pairwise fun a b => ltM a b = true
theorem srt_one {A B : List Mk} (hp : A.Perm B) (ha : Srt A) (hb : Srt B) : A = B :=
  List.Perm.eq_of_pairwise (fun a b _ _ h1 h2 => by have := ltM_trans h1 h2; rw [ltM_irrefl] at this; cases this) ha hb hp
def Unl (l : List Mk) : Prop := (l.map (·.n)).Nodup
theorem Unl.perm {A B : List Mk} (h : Unl A) (hp : A.Perm B) : Unl B := (hp.map (fun m : Mk => m.n)).nodup_iff.1 h
/-- a mark put into its place -/
def insM (x : Mk) : List Mk → List Mk
  | [] => [x]
  | y :: l => if ltM x y then x :: y :: l else y :: insM x l
theorem ins_perm (x : Mk) : ∀ l : List Mk, (insM x l).Perm (x :: l)
  | [] => List.Perm.refl _
  | y :: l => by
    unfold insM
    split
    · exact List.Perm.refl _
    · exact ((ins_perm x l).cons y).trans (List.Perm.swap x y l)
theorem ins_srt (x : Mk) : ∀ l : List Mk, Srt l → (∀ y ∈ l, y.n ≠ x.n) → Srt (insM x l)
  | [], _, _ => by simp [insM, Srt]
  | y :: l, h, hn => by
    unfold insM
    obtain ⟨h1, h2⟩ := List.pairwise_cons.1 h
    split
    · rename_i hl
      exact List.pairwise_cons.2 ⟨fun z hz => by rcases List.mem_cons.1 hz with rfl | hz; · exact hl
                                                 · exact ltM_trans hl (h1 z hz), h⟩
    · rename_i hl
      have hl' : ltM x y = false := by simpa using hl
      refine List.pairwise_cons.2 ⟨fun z hz => ?_, ins_srt x l h2 fun z hz => hn z (by simp [hz])⟩
      rcases List.mem_cons.1 ((ins_perm x l).mem_iff.1 hz) with rfl | hz
      · exact ltM_tri (fun e => hn y (by simp) e.symm) hl'
      · exact h1 z hz
/-- looking up, by names alone -/
theorem atM_none {s : ByteArray} : ∀ {K : List Mk} {i : Nat}, (∀ m ∈ K, m.n ≠ s) → atM s K i = none
  | [], _, _ => rfl
  | m :: K, i, h => by
    unfold atM
    have h1 : (s == m.n) = false := by
      cases hc : s == m.n with
      | false => rfl
      | true => exact absurd ((MapKept.bytes_beq _ _).1 hc).symm (h m (by simp))
    rw [h1]
    simp only [Bool.false_eq_true, if_false]
    exact atM_none fun x hx => h x (by simp [hx])
theorem atM_no {s : ByteArray} : ∀ {K : List Mk} {i : Nat}, atM s K i = none → ∀ m ∈ K, m.n ≠ s
  | [], _, _, _, hm => by simp at hm
  | m :: K, i, h, x, hx => by
    unfold atM at h
    split at h
    · cases h
    · rename_i hc
      rcases List.mem_cons.1 hx with rfl | hx
      · exact fun e => hc ((MapKept.bytes_beq _ _).2 e.symm)
      · exact atM_no h x hx
theorem getM_none {s : ByteArray} {K : List Mk} : getM s K = none ↔ ∀ m ∈ K, m.n ≠ s := by
  unfold getM
  rw [Option.map_eq_none_iff]
  exact ⟨atM_no, atM_none⟩
theorem getM_mem {s : ByteArray} {K : List Mk} {x : Mk} (h : getM s K = some x) : x ∈ K ∧ x.n = s := by
  unfold getM at h
  cases ha : atM s K 0 with
  | none => rw [ha] at h; cases h
  | some y =>
    rw [ha] at h
    obtain ⟨j, y⟩ := y
    cases h
    obtain ⟨_, _, h3, h4⟩ := atM_lt s K 0 j _ ha
    exact ⟨List.mem_iff_getElem?.2 ⟨_, h4⟩, h3.symm⟩
theorem unl_one {K : List Mk} (hu : Unl K) {x y : Mk} (hx : x ∈ K) (hy : y ∈ K) (h : x.n = y.n) : x = y := by
  unfold Unl at hu
  induction K with
  | nil => simp at hx
  | cons z K ih =>
    simp only [List.map_cons, List.nodup_cons] at hu
    rcases List.mem_cons.1 hx with rfl | hx' <;> rcases List.mem_cons.1 hy with rfl | hy'
    · rfl
    · exact absurd (List.mem_map.2 ⟨y, hy', h.symm⟩) hu.1
    · exact absurd (List.mem_map.2 ⟨x, hx', h⟩) hu.1
    · exact ih hu.2 hx' hy'
theorem getM_is {s : ByteArray} {K : List Mk} (hu : Unl K) {x : Mk} (hx : x ∈ K) (h : x.n = s) : getM s K = some x := by
  cases hg : getM s K with
  | none => exact absurd h (getM_none.1 hg x hx)
  | some y =>
    obtain ⟨hy, e⟩ := getM_mem hg
    rw [unl_one hu hy hx (e.trans h.symm)]
theorem getM_perm {s : ByteArray} {A B : List Mk} (hp : A.Perm B) (hu : Unl A) : getM s A = getM s B := by
  cases hg : getM s A with
  | none => exact (getM_none.2 fun m hm => getM_none.1 hg m (hp.mem_iff.2 hm)).symm
  | some y =>
    obtain ⟨hy, e⟩ := getM_mem hg
    exact (getM_is (hu.perm hp) (hp.mem_iff.1 hy) e).symm
/-- one that is taken out and put back -/
theorem del_perm {s : ByteArray} {K : List Mk} {x : Mk} (h : getM s K = some x) : K.Perm (x :: delM s K) := by
  unfold getM at h
  unfold delM
  cases ha : atM s K 0 with
  | none => rw [ha] at h; cases h
  | some y =>
    rw [ha] at h
    obtain ⟨j, y⟩ := y
    cases h
    obtain ⟨h1, h2, _, h4⟩ := atM_lt s K 0 j _ ha
    rw [Nat.sub_zero] at h4
    dsimp only
    clear ha h1 h2
    induction K generalizing j with
    | nil => simp at h4
    | cons z K ih =>
      cases j with
      | zero => simp only [List.getElem?_cons_zero, Option.some.injEq] at h4; subst h4; exact List.Perm.refl _
      | succ j =>
        simp only [List.getElem?_cons_succ] at h4
        exact ((ih j h4).cons z).trans (List.Perm.swap _ _ _)
theorem del_no {s : ByteArray} {K : List Mk} (h : getM s K = none) : delM s K = K := by
  unfold getM at h
  rw [Option.map_eq_none_iff] at h
  unfold delM
  rw [h]
theorem del_sub (s : ByteArray) (K : List Mk) : (delM s K).Sublist K := by
  unfold delM
  split
  · exact List.eraseIdx_sublist _ _
  · exact List.Sublist.refl _
theorem del_both {s : ByteArray} {A B : List Mk} (hp : A.Perm B) (hu : Unl A) : (delM s A).Perm (delM s B) := by
  have hg := getM_perm (s := s) hp hu
  cases h : getM s A with
  | none => rw [del_no h, del_no (hg ▸ h)]; exact hp
  | some x => exact ((del_perm h).symm.trans (hp.trans (del_perm (hg ▸ h)))).cons_inv
theorem del_unl {s : ByteArray} {A : List Mk} (hu : Unl A) : Unl (delM s A) := hu.sublist ((del_sub s A).map _)
theorem del_srt {s : ByteArray} {A : List Mk} (h : Srt A) : Srt (delM s A) := List.Pairwise.sublist (del_sub s A) h
theorem del_names {s : ByteArray} {A : List Mk} (hu : Unl A) : ∀ y ∈ delM s A, y.n ≠ s := by
  intro y hy e
  cases h : getM s A with
  | none => exact getM_none.1 h y ((del_sub s A).mem hy) e
  | some x =>
    have hp := hu.perm (del_perm h)
    unfold Unl at hp
    simp only [List.map_cons, List.nodup_cons] at hp
    exact hp.1 (List.mem_map.2 ⟨y, hy, e.trans (getM_mem h).2.symm⟩)
theorem put_perm (x : Mk) (A : List Mk) : (putM x A).Perm (x :: delM x.n A) := by
  unfold putM delM
  cases ha : atM x.n A 0 with
  | none => exact List.perm_append_singleton _ _
  | some y =>
    obtain ⟨j, y⟩ := y
    obtain ⟨h1, h2, _, h4⟩ := atM_lt x.n A 0 j _ ha
    rw [Nat.sub_zero] at h4
    dsimp only
    clear ha h1 h2
    induction A generalizing j with
    | nil => simp at h4
    | cons z K ih =>
      cases j with
      | zero => exact List.Perm.refl _
      | succ j =>
        simp only [List.getElem?_cons_succ] at h4
        exact ((ih j h4).cons z).trans (List.Perm.swap _ _ _)
/-- the document's list beside the map's -/
structure Rel (L D : List Mk) : Prop where
  p : D.Perm L
  s : Srt D
  u : Unl D
theorem Rel.nil : Rel [] [] := ⟨List.Perm.refl _, List.Pairwise.nil, List.nodup_nil⟩
theorem Rel.del {L D : List Mk} (h : Rel L D) (s : ByteArray) : Rel (delM s L) (delM s D) := ⟨del_both h.p h.u, del_srt h.s, del_unl h.u⟩
theorem Rel.put {L D : List Mk} (h : Rel L D) (x : Mk) : Rel (putM x L) (insM x (delM x.n D)) := by
  have hp : (insM x (delM x.n D)).Perm (x :: delM x.n D) := ins_perm _ _
  have hn := del_names (s := x.n) h.u
  refine ⟨(hp.trans ((del_both h.p h.u).cons x)).trans (put_perm x L).symm, ins_srt _ _ (del_srt h.s) hn, ?_⟩
  refine Unl.perm ?_ hp.symm
  unfold Unl
  simp only [List.map_cons, List.nodup_cons]
  refine ⟨fun hm => ?_, del_unl h.u⟩
  obtain ⟨y, hy, e⟩ := List.mem_map.1 hm
  exact hn y hy e
theorem Rel.get {L D : List Mk} (h : Rel L D) (s : ByteArray) : getM s L = getM s D := (getM_perm h.p h.u).symm
theorem Rel.len {L D : List Mk} (h : Rel L D) : L.length = D.length := h.p.length_eq.symm
/-- what a sorted permutation of some of the map's is -/
theorem Rel.some {L D E : List Mk} (h : Rel L D) (q : Mk → Bool) (hE : E.Perm (L.filter q)) (hs : E.Pairwise fun a b => ltM b a = false) : E = D.filter q := by
  have hp : E.Perm (D.filter q) := hE.trans (h.p.filter q).symm
  have hu : Unl E := Unl.perm (h.u.sublist (List.filter_sublist.map _)) hp.symm
  refine srt_one hp ?_ (List.Pairwise.sublist List.filter_sublist h.s)
  unfold Unl at hu
  rw [List.nodup_iff_pairwise_ne, List.pairwise_map] at hu
  exact (hs.and hu).imp fun ⟨h1, h2⟩ => ltM_tri (Ne.symm h2) h1
/-- marks moved, one by one put into their places -/
def movM (f : Mk → Mk) (D : List Mk) : List Mk := D.foldl (fun o x => insM (f x) o) []
theorem mov_perm (f : Mk → Mk) : ∀ (D o : List Mk), (D.foldl (fun o x => insM (f x) o) o).Perm (o ++ D.map f)
  | [], o => by simp
  | x :: D, o => by
    rw [List.foldl_cons]
    refine (mov_perm f D _).trans ?_
    refine ((ins_perm (f x) o).append_right _).trans ?_
    simp only [List.map_cons]
    exact (List.perm_middle).symm
theorem mov_srt (f : Mk → Mk) (hf : ∀ x, (f x).n = x.n) : ∀ (D o : List Mk), Srt o → Unl (o ++ D) → Srt (D.foldl (fun o x => insM (f x) o) o)
  | [], _, h, _ => h
  | x :: D, o, h, hu => by
    rw [List.foldl_cons]
    have hu' := hu
    unfold Unl at hu'
    rw [List.map_append, List.map_cons, List.nodup_append] at hu'
    refine mov_srt f hf D _ (ins_srt _ _ h fun y hy e => ?_) ?_
    · exact hu'.2.2 y.n (List.mem_map.2 ⟨y, hy, rfl⟩) x.n (by simp) (e.trans (hf x))
    · have hp : ((insM (f x) o ++ D).map (·.n)).Perm ((o ++ x :: D).map (·.n)) := by
        have h1 := ((ins_perm (f x) o).append_right D).map (·.n)
        refine h1.trans ?_
        have h2 := (List.perm_middle (a := x) (l₁ := o) (l₂ := D)).symm.map (·.n)
        simpa [hf] using h2
      exact hp.nodup_iff.2 hu
theorem Rel.mov {L D S : List Mk} (h : Rel L D) (f : Mk → Mk) (hf : ∀ x, (f x).n = x.n) (hS : S.Perm L) : Rel (S.map f) (movM f D) := by
  have hp : (movM f D).Perm (D.map f) := by simpa [movM] using mov_perm f D []
  refine ⟨hp.trans ((h.p.trans hS.symm).map f), mov_srt f hf D [] List.Pairwise.nil (by simpa using h.u), ?_⟩
  refine Unl.perm ?_ hp.symm
  unfold Unl
  have : (D.map f).map (·.n) = D.map (·.n) := by simp [List.map_map, Function.comp_def, hf]
  rw [this]; exact h.u
end Go.Proofs.Ytfllomlighlejaa
