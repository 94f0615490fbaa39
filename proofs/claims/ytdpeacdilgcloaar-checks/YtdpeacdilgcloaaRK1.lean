/- A script's instructions lie one behind the other; which bytes begin one. Plain words. Own text. -/
import Derived.Test.YtdpeacdilgcloaaRC3
namespace Go.Proofs.YtdpeacdilgcloaaR
open Go.RowKit

/-- the instructions ahead of a place: the least that holds of none at 0, and of one more behind it -/
def Chain (s : List UInt8) (l : List InsP) (n : Nat) : Prop :=
  ∀ R : List InsP → Nat → Prop, R [] 0 → (∀ acc i, R acc i → i < s.length → longP (byteAt s i) ≠ 0 → R (acc ++ [insAt s i]) (i + longP (byteAt s i))) → R l n
theorem Chain.nil {s : List UInt8} : Chain s [] 0 := fun _ h _ => h
theorem Chain.snoc {s : List UInt8} {acc : List InsP} {i : Nat} (h : Chain s acc i) (hi : i < s.length) (hl : longP (byteAt s i) ≠ 0) : Chain s (acc ++ [insAt s i]) (i + longP (byteAt s i)) :=
  fun R h0 h1 => h1 _ _ (h R h0 h1) hi hl

theorem chain_of_cut {s : List UInt8} {l : List InsP} : ∀ f i acc, Chain s acc i → i ≤ s.length → cutFrom s f i acc = some l → Chain s l s.length
  | 0, i, acc, hc, hi, h => by
    unfold cutFrom at h
    split at h
    · cases h
    · injection h with h
      subst h
      rw [show s.length = i by omega]
      exact hc
  | f + 1, i, acc, hc, hi, h => by
    unfold cutFrom at h
    split at h
    · rename_i hlt
      split at h
      · cases h
      · rename_i hb
        simp only [not_or] at hb
        exact chain_of_cut f _ _ (.snoc hc hlt hb.1) (by omega) h
    · injection h with h
      subst h
      rw [show s.length = i by omega]
      exact hc

theorem chain_cut {s : List UInt8} {l : List InsP} (h : cutP s = some l) : Chain s l s.length := chain_of_cut _ _ _ .nil (Nat.zero_le _) h

/-- where an instruction begins; behind the last: the script's length -/
def placeOf (l : List InsP) (len j : Nat) : Nat := (l[j]?.map (·.place)).getD len

theorem placeOf_in {l : List InsP} {len j : Nat} (h : j < l.length) : placeOf l len j = l[j].place := by
  unfold placeOf; rw [List.getElem?_eq_getElem h]; rfl
theorem placeOf_end {l : List InsP} {len j : Nat} (h : l.length ≤ j) : placeOf l len j = len := by
  unfold placeOf; rw [List.getElem?_eq_none h]; rfl

theorem Chain.facts {s : List UInt8} {l : List InsP} {n : Nat} (h : Chain s l n) : placeOf l n 0 = 0 ∧ ∀ j (hj : j < l.length), l[j] = insAt s (placeOf l n j) ∧ longP (byteAt s (placeOf l n j)) ≠ 0 ∧ placeOf l n j < s.length ∧
    placeOf l n (j + 1) = placeOf l n j + longP (byteAt s (placeOf l n j)) := by
  refine h (fun l n => placeOf l n 0 = 0 ∧ ∀ j (hj : j < l.length), l[j] = insAt s (placeOf l n j) ∧ longP (byteAt s (placeOf l n j)) ≠ 0 ∧ placeOf l n j < s.length ∧
    placeOf l n (j + 1) = placeOf l n j + longP (byteAt s (placeOf l n j))) ?_ ?_
  · exact ⟨rfl, fun j hj => by simp at hj⟩
  · intro acc i ih hi hl
    have hold : ∀ j, j ≤ acc.length → placeOf (acc ++ [insAt s i]) (i + longP (byteAt s i)) j = placeOf acc i j := by
      intro j hj
      unfold placeOf
      by_cases hjl : j < acc.length
      · rw [List.getElem?_append_left hjl, List.getElem?_eq_getElem hjl]; rfl
      · rw [show j = acc.length by omega]; simp [insAt]
    refine ⟨by rw [hold 0 (Nat.zero_le _)]; exact ih.1, ?_⟩
    intro j hj
    have hj' : j < acc.length + 1 := by simpa using hj
    rw [hold j (by omega)]
    by_cases hjl : j < acc.length
    · obtain ⟨h1, h2, h3, h4⟩ := ih.2 j hjl
      refine ⟨by rw [List.getElem_append_left hjl]; exact h1, h2, h3, ?_⟩
      rw [hold (j + 1) (by omega)]
      exact h4
    · have e : j = acc.length := by omega
      subst e
      have e2 : placeOf acc i acc.length = i := placeOf_end (Nat.le_refl _)
      rw [e2]
      refine ⟨by simp, hl, hi, ?_⟩
      rw [placeOf_end (by simp)]

/-! ### Marks -/
def markAt (acc : List InsP) (n : Nat) : Bool := acc.any (fun x => x.place == n)
def marksV (f : Nat → Bool) : List Value := (List.range 201).map fun n => .bool (f n)

theorem marksV_len (f : Nat → Bool) : (marksV f).length = 201 := by simp [marksV]
theorem marksV_get (f : Nat → Bool) (n : Nat) (h : n < 201) : (marksV f)[n]? = some (.bool (f n)) := by
  simp [marksV, List.getElem?_range h]
theorem marksV_set (f : Nat → Bool) (i : Nat) : (marksV f).set i (.bool true) = marksV (fun n => f n || n == i) := by
  refine List.ext_getElem? fun n => ?_
  rw [List.getElem?_set]
  by_cases h : n < 201
  · rw [marksV_get _ n h, marksV_get _ n h]
    by_cases e : i = n
    · subst e
      rw [if_pos rfl, if_pos (by rw [marksV_len]; exact h)]
      simp
    · rw [if_neg e]
      simp [Ne.symm e]
  · rw [List.getElem?_eq_none (by rw [marksV_len]; omega), List.getElem?_eq_none (by rw [marksV_len]; omega)]
    split
    · split
      · rename_i h1 h2; rw [marksV_len] at h2; omega
      · rfl
    · rfl
theorem marksV_congr {f g : Nat → Bool} (h : ∀ n, f n = g n) : marksV f = marksV g := by rw [show f = g from funext h]
theorem marksV_one (f : Nat → Bool) : ∀ v ∈ marksV f, v.oneCell' = true := by
  intro v hv
  simp only [marksV, List.mem_map] at hv
  obtain ⟨n, _, rfl⟩ := hv
  rfl

theorem markAt_snoc (acc : List InsP) (x : InsP) (n : Nat) : (markAt acc n || n == x.place) = markAt (acc ++ [x]) n := by
  simp [markAt, List.any_append, Bool.beq_comm (a := n)]

theorem mark_find (l : List InsP) (len n : Nat) : (markAt l n || n == len) = decide (0 ≤ findP l len n) := by
  unfold findP
  by_cases h : n = len
  · subst h; simp
  · rw [if_neg (by omega)]
    have e : (n == len) = false := by simpa using h
    rw [e, Bool.or_false]
    cases hf : l.findIdx? (fun x => decide ((x.place : Int) = (n : Int))) with
    | none =>
      rw [List.findIdx?_eq_none_iff] at hf
      have : markAt l n = false := by
        unfold markAt
        rw [List.any_eq_false]
        intro x hx
        have := hf x hx
        simp at this ⊢
        omega
      rw [this]
      rfl
    | some i =>
      obtain ⟨h1, h2, _⟩ := List.findIdx?_eq_some_iff_getElem.1 hf
      have : markAt l n = true := by
        unfold markAt
        rw [List.any_eq_true]
        exact ⟨l[i], List.getElem_mem h1, by simp at h2 ⊢; omega⟩
      rw [this]
      simp

/-- is there what an instruction names? -/
def fitP (f : Nat → Bool) (k n : Nat) : Bool :=
  if k = 13 ∨ k = 14 ∨ k = 15 then decide (n < 201) && f n
  else if k = 17 ∨ k = 18 then decide (n < 16)
  else if k = 21 ∨ k = 22 ∨ k = 23 ∨ k = 24 then decide (n < 4)
  else true

theorem fit_good {s : List UInt8} {l : List InsP} (h : Chain s l s.length) (hs : s.length ≤ 200) (x : InsP) : fitP (fun n => markAt l n || n == s.length) x.what x.n = goodP l s.length x := by
  unfold fitP goodP
  by_cases hA : x.what = 13 ∨ x.what = 14 ∨ x.what = 15
  · rw [if_pos hA, if_pos hA]
    show (decide (x.n < 201) && (markAt l x.n || x.n == s.length)) = _
    rw [mark_find]
    by_cases hn : x.n < 201
    · simp [hn]
    · have : findP l s.length x.n = -1 := by
        unfold findP
        rw [if_neg (by omega)]
        have : l.findIdx? (fun y => decide ((y.place : Int) = (x.n : Int))) = none := by
          rw [List.findIdx?_eq_none_iff]
          intro y hy
          obtain ⟨j, hj, rfl⟩ := List.getElem_of_mem hy
          obtain ⟨_, _, h3, _⟩ := h.facts.2 j hj
          rw [placeOf_in hj] at h3
          simp
          omega
        rw [this]
      rw [this]
      simp [hn]
  · rw [if_neg hA, if_neg hA]

end Go.Proofs.YtdpeacdilgcloaaR
