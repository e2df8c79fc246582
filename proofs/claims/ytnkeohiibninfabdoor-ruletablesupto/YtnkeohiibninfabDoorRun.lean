/- []rune of a string of bytes, and string of the runes; contracts of step.Runes and galleylaw02.same. -/
import Derived.Test.YtnkeohiibninfabDoorVld
import Derived.Test.YtnkeohiibninfabDoorNew
import Derived.Laws.IdiomStrings
import Derived.Laws.Cover4
namespace Go.Proofs.YtnkeohiibninfabDoor
open Go.ChangeShapes Go.WideShapes Go.ChangeAt Go.RowKit

/-- the runes of the steps -/
def runesL (l : List Int) : List Int := (spots l 0).map fun p => (first (l.drop p)).1
theorem runesFrom_spots {l : List Int} (hl : ∀ x ∈ l, 0 ≤ x ∧ x ≤ 255) : ∀ (bound p : Nat) (acc : Array Value), l.length - p ≤ bound → Conv.runesFrom (strOfNums l) bound p acc = acc ++ ((spots l p).map fun q => Value.int .i32 (first (l.drop q)).1).toArray
  | 0, p, acc, h => by rw [spots_end (by omega)]; simp [Conv.runesFrom]
  | bound + 1, p, acc, h => by
    by_cases hp : p < l.length
    · obtain ⟨e1, e2⟩ := decode_stp hl hp
      have hw := wid_pos hp
      have hs : p < (strOfNums l).size := by rw [strOfNums_size]; exact hp
      simp only [Conv.runesFrom, if_pos hs]
      rw [e2, runesFrom_spots hl bound (p + wid (l.drop p)) _ (by omega), spots_cons hp]
      have e3 : Int.ofNat (Utf8.decode (strOfNums l) p).1 = (first (l.drop p)).1 := e1
      rw [e3]
      simp
    · have hs : ¬ p < (strOfNums l).size := by rw [strOfNums_size]; exact hp
      simp only [Conv.runesFrom, if_neg hs]
      rw [spots_end hp]
      simp
theorem runes_of {l : List Int} (hl : ∀ x ∈ l, 0 ≤ x ∧ x ≤ 255) : Conv.runesFrom (strOfNums l) (strOfNums l).size 0 #[] = ((runesL l).map (Value.int .i32)).toArray := by
  rw [runesFrom_spots hl _ 0 #[] (by rw [strOfNums_size]; omega)]
  simp [runesL]
theorem spots_len' (l : List Int) : ∀ (f p : Nat), (places l f p).length ≤ f
  | 0, _ => by simp [places]
  | f + 1, p => by
    simp only [places]
    split
    · have := spots_len' l f (p + wid (l.drop p)); simp; omega
    · simp
theorem runesL_le (l : List Int) : (runesL l).length ≤ l.length := by rw [runesL, List.length_map]; exact spots_len' l _ 0

/-- a []rune that lies in memory -/
def RunesAt (W : World) (a : Option Addr) (rs : List Int) : Prop := rs = [] ∨ ∃ g, a = some ⟨g, 0, none⟩ ∧ g < W.heap.size ∧ ∀ k, k < rs.length → W.cell? ⟨g, k, none⟩ = some (.int .i32 (rs.getD k 0))
theorem RunesAt.below {W W' : World} {B : Nat} {a : Option Addr} {rs : List Int} (h : RunesAt W a rs) (hb : Below B W W') (hB : W.heap.size ≤ B) : RunesAt W' a rs := by
  rcases h with h | ⟨g, h1, h2, h3⟩
  · exact Or.inl h
  · exact Or.inr ⟨g, h1, Nat.lt_of_lt_of_le h2 hb.size, fun k hk => (hb.cell (p := ⟨g, k, none⟩) (Nat.lt_of_lt_of_le h2 hB)).trans (h3 k hk)⟩
theorem RunesAt.drewN {W : World} {a : Option Addr} {rs : List Int} (h : RunesAt W a rs) (n : Nat) : RunesAt (W.drewN n) a rs := h

/-- []rune(string) in whatever world -/
theorem run_runes (W : World) (l : List Int) (hl : ∀ x ∈ l, 0 ≤ x ∧ x ≤ 255) (hn : l.length ≤ 70368744177664) :
    ∃ c W', (convert 9 68 (.string (strOfNums l))).run Tryd.prog W = .ok (.slice (some ⟨W.heap.size, 0, none⟩) (runesL l).length c) W' ∧ (runesL l).length ≤ c ∧ RunesAt W' (some ⟨W.heap.size, 0, none⟩) (runesL l) ∧ Below W.heap.size W W' := by
  have hr := runes_of hl
  have hle := runesL_le l
  have := run_runes_of_string (P := Tryd.prog) W 9 68 21 (strOfNums l) Tryd.underlying9 Tryd.underlying68 Tryd.underlying21 (by rw [hr]; simp; omega)
  rw [hr] at this
  simp only [List.size_toArray, List.length_map] at this
  refine ⟨_, _, this, grownCap_ge _ _ _ _, Or.inr ⟨_, rfl, by simp, fun k hk => ?_⟩, ?_⟩
  · refine (World.cell?_alloc_mark W.drew _ 21 (0, 0) k).trans ?_
    rw [Array.getElem?_append_left (by simpa using hk)]
    simp [List.getElem?_eq_getElem hk, List.getD]
  · exact ((Below.refl W.heap.size W).drew).alloc (Nat.le_refl _) _

/-- string of runes: the bytes of their encodings, one behind the other -/
theorem encode_enc (r : Int) : Utf8.encode r = strOfNums (enc r) := utf8_enc r
theorem str_append (a b : List Int) : strOfNums a ++ strOfNums b = strOfNums (a ++ b) := by
  apply ByteArray.ext
  simp [strOfNums]
theorem runesBytes_enc (rs : List Int) : runesBytes rs = strOfNums (rs.flatMap enc) := by
  have : ∀ (rs : List Int) (acc : List Int), rs.foldl (fun r n => r ++ Utf8.encode n) (strOfNums acc) = strOfNums (acc ++ rs.flatMap enc) := by
    intro rs
    induction rs with
    | nil => intro acc; simp
    | cons r rs ih => intro acc; rw [List.foldl_cons, encode_enc, str_append, ih]; simp
  have h := this rs []
  rw [List.nil_append] at h
  exact h
theorem run_back (W : World) (g c : Nat) (rs : List Int) (h : RunesAt W (some ⟨g, 0, none⟩) rs) : (convert 68 9 (.slice (some ⟨g, 0, none⟩) rs.length c)).run Tryd.prog W = .ok (.string (strOfNums (rs.flatMap enc))) W := by
  rw [← runesBytes_enc]
  have := run_convert_runes (P := Tryd.prog) W 68 9 21 ⟨g, 0, none⟩ rs.length c rs (Nat.le_refl _) Tryd.underlying68 Tryd.underlying21 Tryd.underlying9 (fun j hj => by
    rcases h with h | ⟨g', e, _, h3⟩
    · rw [h] at hj; cases hj
    · cases e; rw [Addr.add_lit, Nat.zero_add]; exact h3 j hj)
  rwa [List.take_length] at this

/-- the runes' encodings are the bytes just if all steps are whole -/
theorem enc_step {l : List Int} (hl : ∀ x ∈ l, 0 ≤ x ∧ x ≤ 255) {p : Nat} (hp : p < l.length) : (whl (l.drop p) = true ∧ enc (first (l.drop p)).1 = (l.drop p).take (wid (l.drop p))) ∨ (whl (l.drop p) = false ∧ wid (l.drop p) = 1 ∧ (enc (first (l.drop p)).1).length = 3) := by
  cases hd : l.drop p with
  | nil => have := congrArg List.length hd; simp at this; omega
  | cons a r =>
    have hb : ∀ x ∈ a :: r, 0 ≤ x ∧ x ≤ 255 := fun x hx => hl x (List.mem_of_mem_drop (hd ▸ hx))
    by_cases h : lng (a :: r) = 0
    · right
      have hw : wid (a :: r) = 1 := by rw [wid_lng, if_pos h]
      refine ⟨by simp [whl, h], hw, ?_⟩
      rw [first_bad h, enc_3 (by decide) (by decide) (by decide)]
      rfl
    · left
      refine ⟨by simp [whl, h], ?_⟩
      obtain ⟨h1, h2, _⟩ := need_of_lng h
      rw [h2]
      have hw : whole ((a :: r).take (need a).toNat) = true := by
        simp only [lng] at h
        split at h
        · assumption
        · exact absurd rfl h
      have hf : (first (a :: r)).1 = value ((a :: r).take (need a).toNat) := by simp only [first, if_pos hw]
      rw [hf, enc_value hw (fun x hx => hb x (List.mem_of_mem_take hx)), h1, Int.toNat_natCast]
theorem enc_spots {l : List Int} (hl : ∀ x ∈ l, 0 ≤ x ∧ x ≤ 255) : ∀ (n p : Nat), l.length - p ≤ n → p ≤ l.length →
    (((spots l p).all fun q => whl (l.drop q)) = true → (spots l p).flatMap (fun q => enc (first (l.drop q)).1) = l.drop p) ∧
    (((spots l p).all fun q => whl (l.drop q)) = false → l.length - p < ((spots l p).flatMap (fun q => enc (first (l.drop q)).1)).length) ∧ l.length - p ≤ ((spots l p).flatMap (fun q => enc (first (l.drop q)).1)).length
  | 0, p, h, hpl => by
    obtain rfl : p = l.length := by omega
    rw [spots_end (by omega)]
    simp
  | n + 1, p, h, hpl => by
    by_cases hp : p < l.length
    · have hw := wid_pos hp
      have hwl := wid_len hp
      obtain ⟨i1, i2, i3⟩ := enc_spots hl n (p + wid (l.drop p)) (by omega) hwl
      rw [spots_cons hp]
      simp only [List.all_cons, List.flatMap_cons, List.length_append]
      rcases enc_step hl hp with ⟨e1, e2⟩ | ⟨e1, e2, e3⟩
      · rw [e1, e2, Bool.true_and]
        have hlen : ((l.drop p).take (wid (l.drop p))).length = wid (l.drop p) := by rw [List.length_take, List.length_drop]; omega
        refine ⟨fun h => ?_, fun h => ?_, ?_⟩
        · rw [i1 h, ← List.drop_drop, List.take_append_drop]
        · have := i2 h; omega
        · omega
      · rw [e1, Bool.false_and, e3]
        refine ⟨(fun h => by cases h), fun _ => ?_, ?_⟩ <;> omega
    · rw [spots_end hp]
      obtain rfl : p = l.length := by omega
      simp
theorem valid_back {l : List Int} (hl : ∀ x ∈ l, 0 ≤ x ∧ x ≤ 255) : decide ((runesL l).flatMap enc = l) = valid l := by
  obtain ⟨i1, i2, _⟩ := enc_spots hl l.length 0 (by omega) (Nat.zero_le _)
  have e : (runesL l).flatMap enc = (spots l 0).flatMap (fun q => enc (first (l.drop q)).1) := by simp [runesL, List.flatMap_map]
  rw [e]
  unfold valid
  cases h : ((spots l 0).all fun q => whl (l.drop q)) with
  | true => have := i1 h; rw [this]; simp
  | false =>
    refine decide_eq_false fun e2 => ?_
    have := i2 h
    rw [e2] at this
    omega

end Go.Proofs.YtnkeohiibninfabDoor
