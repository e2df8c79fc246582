/- Layer 3: contracts of units.To and of units' first. -/
import Derived.Test.YtnkeohiibninfabDoorUnm
import Derived.Test.YtnkeohiibninfabDoorNam
namespace Go.Proofs.YtnkeohiibninfabDoor
open Go.ChangeShapes Go.WideShapes Go.ChangeAt Go.RowKit

theorem OwnU.mono {w : World} {B B' : Nat} {v : Value} {l : List Int} (h : OwnU w B v l) (hB : B' ≤ B) : OwnU w B' v l := by
  rcases h.2 with h0 | ⟨g, cap, cur, h1, h2, h3⟩
  · exact ⟨h.1, Or.inl h0⟩
  · exact ⟨h.1, Or.inr ⟨g, cap, cur, h1, Nat.le_trans hB h2, h3⟩⟩
theorem value_rune {l : List Int} (h : whole l = true) (hl : ∀ x ∈ l, 0 ≤ x ∧ x ≤ 255) : isRune (value l) = true := by
  cases hr : isRune (value l) with
  | true => rfl
  | false =>
    have h1 := value_enc (value l)
    rw [enc_value h hl, hr] at h1
    rw [h1] at hr
    exact absurd hr (by simp; decide)
theorem first_rune {l : List Int} (hl : ∀ x ∈ l, 0 ≤ x ∧ x ≤ 255) (h0 : 0 < l.length) : isRune (first l).1 = true := by
  match l with
  | [] => cases h0
  | a :: r =>
    simp only [first]
    split
    · rename_i hw
      exact value_rune hw (fun x hx => hl x (List.mem_of_mem_take hx))
    · decide
theorem rune_step {l : List Int} (hl : ∀ x ∈ l, 0 ≤ x ∧ x ≤ 255) {p : Nat} (hp : p < l.length) : isRune (first (l.drop p)).1 = true :=
  first_rune (fun x hx => hl x (List.mem_of_mem_drop hx)) (by simp; omega)
theorem runesL_rune {l : List Int} (hl : ∀ x ∈ l, 0 ≤ x ∧ x ≤ 255) : ∀ (n p : Nat), l.length - p ≤ n → ∀ q ∈ spots l p, q < l.length
  | 0, p, h => by rw [spots_end (by omega)]; simp
  | n + 1, p, h => by
    by_cases hp : p < l.length
    · have hw := wid_pos hp
      rw [spots_cons hp]
      intro q hq
      rcases List.mem_cons.1 hq with rfl | hq
      · exact hp
      · exact runesL_rune hl n (p + wid (l.drop p)) (by omega) q hq
    · rw [spots_end hp]; simp
theorem runesL_all {l : List Int} (hl : ∀ x ∈ l, 0 ≤ x ∧ x ≤ 255) : ∀ r ∈ runesL l, isRune r = true := by
  intro r hr
  obtain ⟨p, hp, rfl⟩ := List.mem_map.1 hr
  exact rune_step hl (runesL_rune hl l.length 0 (by omega) p hp)
theorem flat_len : ∀ rs : List Int, (rs.flatMap uni).length ≤ 2 * rs.length
  | [] => by simp
  | r :: rs => by
    have := flat_len rs
    have := (uni_len r).1
    rw [List.flatMap_cons, List.length_append, List.length_cons]
    omega
theorem take_flat {rs : List Int} {k : Nat} (hk : k < rs.length) {f : Int → List Int} : (rs.take (k + 1)).flatMap f = (rs.take k).flatMap f ++ f (rs.getD k 0) := by
  rw [List.take_succ_eq_append_getElem hk, List.flatMap_append]
  simp [List.getD, List.getElem?_eq_getElem hk]
/-- the units that one sees -/
def toL (l : List Int) : List Int := (runesL l).flatMap uni
theorem toL_len (l : List Int) : (toL l).length ≤ 2 * l.length := by have h1 := flat_len (runesL l); have h2 := runesL_le l; unfold toL; omega
theorem toL_in {l : List Int} (hl : ∀ x ∈ l, 0 ≤ x ∧ x ≤ 255) : ∀ x ∈ toL l, 0 ≤ x ∧ x ≤ 65535 := by
  intro x hx
  obtain ⟨r, hr, hx⟩ := List.mem_flatMap.1 hx
  exact uni_in (runesL_all hl r hr) x hx

set_option maxHeartbeats 1000000 in
theorem UTo_at (a0 : Option Addr) (cap : Nat) (l : List Int) (w : World) (hB : IsB w a0 cap l) (hl : l.length ≤ 4194304) :
    Calls Tryd.prog 14 #[.slice a0 l.length cap] w fun e w' => ∃ v, e = .returned v ∧ OwnU w' w.heap.size v (toL l) ∧ Below w.heap.size w w' := by
  have kb := str_bs w a0 cap l hB.2.2.1
  obtain ⟨c, w1, hr, h1, h2, h3⟩ := run_runes w l hB.2.2.2 (by omega)
  have hle := runesL_le l
  have HALL := hide (runesL_all hB.2.2.2)
  obtain ⟨w2, hm, o2, b2⟩ := make_u16 w1 (runesL l).length (by omega)
  have HT : Hid (toL l = (runesL l).flatMap uni) := hide rfl
  have hs := h3.size
  have hx := h3.trans (b2.mono hs)
  have HC : Hid (∀ k, k < (runesL l).length → w.heap.size < w1.heap.size ∧ w2.cell? ⟨w.heap.size, k, none⟩ = some (.int .i32 ((runesL l).getD k 0))) := hide (fun k hk => by
    rcases h2 with h2 | ⟨g, e, hg, h2⟩
    · rw [h2] at hk; cases hk
    · cases e; exact ⟨hg, (b2.cell (p := ⟨w.heap.size, k, none⟩) hg).trans (h2 k hk)⟩)
  clear h2 h3 hB
  generalize runesL l = rs at *
  generalize toL l = tl at *
  generalize hn : rs.length = n at *
  have HN := hide hn
  have HO : Hid (OwnU w2 w1.heap.size (.slice (some ⟨w1.heap.size, 0, none⟩) 0 n) []) := o2
  clear hn o2
  have s2 := b2.size
  go_enter Tryd.func14, Tryd.ntmps14
  go_wp2_with fail
  clear hm hr kb b2
  generalize w1.heap.size = g1 at *
  go_loopw [4, 15] (fun v i wx => ∃ k : Nat, k ≤ n ∧ i = .int .i64 k ∧ Hid (OwnU wx g1 v ((rs.take k).flatMap uni)) ∧ Below g1 w2 wx) (fun _ i _ => n - (intOf i).toNat)
  case atStart => exact ⟨0, Nat.zero_le _, rfl, unhide HO, Below.refl _ _⟩
  case round =>
    obtain ⟨k, hk, rfl, ho, hb⟩ := hrel
    by_cases hlt : k < n
    · obtain ⟨hg, hc⟩ := unhide HC k hlt
      have hc' : wr.cell? ⟨w.heap.size, k, none⟩ = some (.int .i32 (rs.getD k 0)) := (hb.cell (p := ⟨w.heap.size, k, none⟩) hg).trans hc
      have hk' : k < rs.length := by rw [unhide HN]; exact hlt
      have hru : isRune (rs.getD k 0) = true := by rw [show rs.getD k 0 = rs[k] by simp [List.getD, List.getElem?_eq_getElem hk']]; exact unhide HALL _ (List.getElem_mem hk')
      have HF := hide (take_flat (f := uni) hk')
      have hfl := flat_len (rs.take k)
      rw [List.length_take] at hfl
      have HRU := hide hru
      generalize hx : rs.getD k 0 = r at *
      clear hx hru hc hk'
      have hsz := hb.size
      go_wp2_with fail
      refine (appendRune_at g1 _ _ r wr (unhide ho) (unhide HRU) (by omega) (by omega)).mono ?_
      rintro e w3 ⟨v3, rfl, o3, b3, _⟩
      go_wp2
      go_roundw
      case rel => exact ⟨k + 1, by omega, by go_num, by rw [unhide HF]; exact hide o3, hb.trans b3⟩
      case measure => simp [intOf]; omega
    · obtain rfl : k = n := by omega
      have ho' := unhide ho
      rw [List.take_of_length_le (by rw [unhide HN]; omega), ← unhide HT] at ho'
      clear ho
      go_wp2
      go_ret
      exact ⟨_, rfl, ho'.mono hs, hx.trans (hb.mono hs)⟩

/-- the rune with which units begin, and how many of them it has: 0: they begin with a lone half -/
def fstU : List Int → Int × Nat
  | [] => (0, 0)
  | a :: r => if isHi a || isLo a then (match r with | [] => (0, 0) | b :: _ => if isHi a && isLo b then (joinR a b, 2) else (0, 0)) else (a, 1)
def fstV (u : List Int) : Value := .tuple #[.int .i32 (fstU u).1, .int .i64 ((fstU u).2 : Nat)]

/-- what a list of units says, read from a place on: at each place a fault or the bytes that are said there and how many units more than one say them -/
inductive Item where
  | bad (e : Int)
  | ok (bs : List Int) (more : Nat)
def rd (it : Nat → Item) (n p : Nat) (acc : List Int) : List Int × Nat × Int :=
  if p < n then match it p with
    | .bad e => ([], p, e)
    | .ok bs m => rd it n (p + (m + 1)) (acc ++ bs)
  else (acc, 0, 0)
termination_by n - p
theorem rd_end {it : Nat → Item} {n p : Nat} {acc : List Int} (h : ¬ p < n) : rd it n p acc = (acc, 0, 0) := by rw [rd, if_neg h]
theorem rd_bad {it : Nat → Item} {n p : Nat} {acc : List Int} {e : Int} (h : p < n) (hi : it p = .bad e) : rd it n p acc = ([], p, e) := by rw [rd, if_pos h, hi]
theorem rd_ok {it : Nat → Item} {n p : Nat} {acc bs : List Int} {m : Nat} (h : p < n) (hi : it p = .ok bs m) : rd it n p acc = rd it n (p + (m + 1)) (acc ++ bs) := by rw [rd, if_pos h, hi]
/-- From's items -/
def itF (u : List Int) (p : Nat) : Item := if (fstU (u.drop p)).2 = 0 then .bad 30 else .ok (enc (fstU (u.drop p)).1) ((fstU (u.drop p)).2 - 1)
def fromL (u : List Int) : List Int × Nat × Int := rd (itF u) u.length 0 []
theorem fstU_le (u : List Int) : (fstU u).2 ≤ u.length ∧ (fstU u).2 ≤ 2 := by
  match u with
  | [] => simp [fstU]
  | [a] => simp only [fstU]; split <;> simp
  | a :: b :: t =>
    simp only [fstU]
    split
    · split <;> simp
    · simp
theorem fstU_rune {u : List Int} (hu : ∀ x ∈ u, 0 ≤ x ∧ x ≤ 65535) (h : (fstU u).2 ≠ 0) : isRune (fstU u).1 = true := by
  match u with
  | [] => exact absurd rfl h
  | a :: r =>
    have ha := hu a (by simp)
    cases h1 : (isHi a || isLo a) with
    | false =>
      have : (fstU (a :: r)) = (a, 1) := by simp only [fstU, h1]; rfl
      rw [this]
      simp only [Bool.or_eq_false_iff] at h1
      have h2 : ¬ (55296 ≤ a ∧ a < 56320) := of_decide_eq_false h1.1
      have h3 : ¬ (56320 ≤ a ∧ a ≤ 57343) := of_decide_eq_false h1.2
      exact isRune_true (by show 0 ≤ a ∧ a < 55296 ∨ 57343 < a ∧ a ≤ 1114111; omega)
    | true =>
      match r with
      | [] => simp [fstU, h1] at h
      | b :: t =>
        cases h2 : (isHi a && isLo b) with
        | false => simp [fstU, h1, h2] at h
        | true =>
          have : (fstU (a :: b :: t)) = (joinR a b, 2) := by simp only [fstU, h1, h2]; rfl
          rw [this]
          simp only [Bool.and_eq_true] at h2
          have h3 : 55296 ≤ a ∧ a < 56320 := of_decide_eq_true h2.1
          have h4 : 56320 ≤ b ∧ b ≤ 57343 := of_decide_eq_true h2.2
          refine isRune_true ?_
          show 0 ≤ joinR a b ∧ joinR a b < 55296 ∨ 57343 < joinR a b ∧ joinR a b ≤ 1114111
          unfold joinR
          omega

end Go.Proofs.YtnkeohiibninfabDoor
