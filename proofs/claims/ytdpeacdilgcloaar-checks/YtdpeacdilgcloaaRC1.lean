/- The document's Check: a script is cut into instructions, each is looked at; in plain words, and walked. Own text. -/
import Derived.Test.YtdpeacdilgcloaaRLaws3
namespace Go.Proofs.YtdpeacdilgcloaaR
open Go.RowKit

/-! ### In plain words -/
structure InsP where
  what : Nat
  place : Nat
  n : Nat

def longP (w : Nat) : Nat :=
  if w = 1 ∨ w = 13 ∨ w = 14 ∨ w = 15 ∨ w = 17 ∨ w = 18 ∨ w = 21 ∨ w = 22 ∨ w = 23 ∨ w = 24 then 2 else if 24 < w then 0 else 1

def byteAt (s : List UInt8) (i : Nat) : Nat := (s.getD i 0).toNat

def insAt (s : List UInt8) (i : Nat) : InsP := ⟨byteAt s i, i, if longP (byteAt s i) = 2 then byteAt s (i + 1) else 0⟩

/-- the instructions from a place on, behind those that were found -/
def cutFrom (s : List UInt8) : Nat → Nat → List InsP → Option (List InsP)
  | 0, i, acc => if i < s.length then none else some acc
  | f + 1, i, acc =>
    if i < s.length then
      if longP (byteAt s i) = 0 ∨ s.length < i + longP (byteAt s i) then none
      else cutFrom s f (i + longP (byteAt s i)) (acc ++ [insAt s i])
    else some acc
def cutP (s : List UInt8) : Option (List InsP) := cutFrom s s.length 0 []

def findP (l : List InsP) (len : Nat) (p : Int) : Int :=
  if p = len then l.length else match l.findIdx? (fun x => decide ((x.place : Int) = p)) with
    | some i => i
    | none => -1

def goodP (l : List InsP) (len : Nat) (x : InsP) : Bool :=
  if x.what = 13 ∨ x.what = 14 ∨ x.what = 15 then decide (0 ≤ findP l len x.n)
  else if x.what = 17 ∨ x.what = 18 then decide (x.n < 16)
  else if x.what = 21 ∨ x.what = 22 ∨ x.what = 23 ∨ x.what = 24 then decide (x.n < 4)
  else true

def checkP (s : List UInt8) : Int :=
  match cutP s with
  | none => 5
  | some l => if 200 < s.length then 5 else if l.all (goodP l s.length) then 0 else 5

/-! ### long -/
set_option maxRecDepth 100000 in
set_option maxHeartbeats 1000000 in
theorem rlong_any (k : Nat) (w : World) : Calls Try.prog 44 #[.int .i64 k] w fun e w' => e = .returned (.int .i64 (longP k)) ∧ w = w' := by
  by_cases h : k = 1 ∨ k = 13 ∨ k = 14 ∨ k = 15 ∨ k = 17 ∨ k = 18 ∨ k = 21 ∨ k = 22 ∨ k = 23 ∨ k = 24
  · have e : longP k = 2 := by unfold longP; rw [if_pos h]
    rw [e]
    rcases h with rfl | rfl | rfl | rfl | rfl | rfl | rfl | rfl | rfl | rfl
    all_goals
      go_enter Try.func44, Try.ntmps44
      go_wp2
      go_ret
      exact ⟨rfl, rfl⟩
  · have n1 : ((k : Int) == 1) = false := by simp; omega
    have n2 : ((k : Int) == 13) = false := by simp; omega
    have n3 : ((k : Int) == 14) = false := by simp; omega
    have n4 : ((k : Int) == 15) = false := by simp; omega
    have n5 : ((k : Int) == 17) = false := by simp; omega
    have n6 : ((k : Int) == 18) = false := by simp; omega
    have n7 : ((k : Int) == 21) = false := by simp; omega
    have n8 : ((k : Int) == 22) = false := by simp; omega
    have n9 : ((k : Int) == 23) = false := by simp; omega
    have n10 : ((k : Int) == 24) = false := by simp; omega
    by_cases h2 : 24 < k
    · have e : longP k = 0 := by unfold longP; rw [if_neg h, if_pos h2]
      rw [e]
      have h3 : (24 : Int) < (k : Int) := by omega
      clear h h2
      go_enter Try.func44, Try.ntmps44
      go_wp2
      go_ret
      exact ⟨rfl, rfl⟩
    · have e : longP k = 1 := by unfold longP; rw [if_neg h, if_neg h2]
      rw [e]
      have h3 : ¬ (24 : Int) < (k : Int) := by omega
      clear h h2
      go_enter Try.func44, Try.ntmps44
      go_wp2
      go_ret
      exact ⟨rfl, rfl⟩

/-! ### find -/
def icells (x : InsP) : List Value := [.int .i64 x.what, .int .i64 x.place, .int .i64 x.n]
def iflat (l : List InsP) : List Value := l.flatMap icells

theorem own_ins {w : World} {g n cap : Nat} {base : Nat} {e : TypeId} {ls : List InsP} (h : w.ownsRow base e 3 (.slice (some ⟨g, 0, none⟩) n cap) n (iflat ls)) (k : Nat) (hk : k < ls.length) :
    w.cell? ⟨g, k * 3, none⟩ = some (.int .i64 ls[k].what) ∧ w.cell? ⟨g, k * 3 + 1, none⟩ = some (.int .i64 ls[k].place) ∧ w.cell? ⟨g, k * 3 + 2, none⟩ = some (.int .i64 ls[k].n) := by
  have hr := range_own (f := icells) h k hk (fun _ _ => rfl)
  exact ⟨hr 0 _ rfl, hr 1 _ rfl, hr 2 _ rfl⟩

theorem own_form {w : World} {base : Nat} {e : TypeId} {size : Nat} {v : Value} {n : Nat} {xs : List Value} (h : w.ownsRow base e size v n xs) : ∃ a cap, v = .slice a n cap ∧ cap ≤ maxLen ∧ n ≤ cap ∧ (0 < n → ∃ g, a = some ⟨g, 0, none⟩) := by
  rcases h.2 with ⟨h1, h2⟩ | ⟨g, cap, cur, h1, _, _, hn, hc, _⟩
  · exact ⟨none, 0, by rw [h1, h2], Nat.zero_le _, by omega, fun h => by omega⟩
  · exact ⟨_, cap, h1, hc, hn, fun _ => ⟨g, rfl⟩⟩

set_option maxRecDepth 100000 in
set_option maxHeartbeats 1000000 in
theorem rfind_any (w : World) (v : Value) (l : List InsP) (hv : w.ownsRow 0 61 3 v l.length (iflat l)) (S : ByteArray) (p : Int) (hl : l.length ≤ 1000000000000) :
    Calls Try.prog 32 #[v, .string S, .int .i64 p] w fun e w' => e = .returned (.int .i64 (findP l S.size p)) ∧ w = w' := by
  obtain ⟨a, cap, rfl, _, _, ha⟩ := own_form hv
  by_cases h : p = (S.size : Int)
  · have e : findP l S.size p = l.length := by unfold findP; rw [if_pos h]
    rw [e]
    have hb : (p == (S.size : Int)) = true := by simpa using h
    clear h e
    go_enter Try.func32, Try.ntmps32
    go_wp2
    go_ret
    exact ⟨rfl, rfl⟩
  · have hb : (p == (S.size : Int)) = false := by simpa using h
    have Hv := hidden hv
    clear hv
    have hfin : ∀ k, k < l.length → (∀ j, j < k → ∀ hj : j < l.length, (l[j].place : Int) ≠ p) → ∀ hk : k < l.length, (l[k].place : Int) = p → findP l S.size p = k := by
      intro k _ hno hk he
      unfold findP
      rw [if_neg h]
      have : l.findIdx? (fun x => decide ((x.place : Int) = p)) = some k := by
        rw [List.findIdx?_eq_some_iff_getElem]
        refine ⟨hk, by simpa using he, ?_⟩
        intro j hj
        simpa using hno j hj (by omega)
      rw [this]
    have hnone : (∀ j, j < l.length → ∀ hj : j < l.length, (l[j].place : Int) ≠ p) → findP l S.size p = -1 := by
      intro hno
      unfold findP
      rw [if_neg h]
      have : l.findIdx? (fun x => decide ((x.place : Int) = p)) = none := by
        rw [List.findIdx?_eq_none_iff]
        intro x hx
        obtain ⟨j, hj, rfl⟩ := List.getElem_of_mem hx
        simpa using hno j hj hj
      rw [this]
    have HF := hidden hfin
    have HN := hidden hnone
    clear hfin hnone h
    go_enter Try.func32, Try.ntmps32
    go_wp2
    go_loop [7] (fun i => ∃ k : Nat, k ≤ l.length ∧ i = .int .i64 k ∧ ∀ j, j < k → ∀ hj : j < l.length, (l[j].place : Int) ≠ p) (fun i => l.length - (intOf i).toNat)
    case atStart => exact ⟨0, Nat.zero_le _, rfl, fun j hj => by omega⟩
    case round =>
      obtain ⟨k, hk, rfl, hno⟩ := hrel
      by_cases hlt : k < l.length
      · obtain ⟨g, rfl⟩ := ha (by omega)
        obtain ⟨_, e1, _⟩ := own_ins Hv.out k hlt
        have HF2 := hidden (HF.out k hlt hno hlt)
        have HNo := hidden hno
        clear hno
        by_cases he : (l[k].place : Int) = p
        · have heb : ((l[k].place : Int) == p) = true := by simpa using he
          have HE := hidden he
          clear he
          go_wp2
          go_ret
          exact ⟨ret_int (HF2.out HE.out).symm, rfl⟩
        · have heb : ((l[k].place : Int) == p) = false := by simpa using he
          have HE := hidden he
          clear he
          go_wp2
          go_round
          case rel =>
            refine ⟨k + 1, by omega, by go_num, ?_⟩
            intro j hj hj2
            by_cases hjk : j = k
            · subst hjk; exact HE.out
            · exact HNo.out j (by omega) hj2
          case measure => simp [intOf]; omega
      · have HN2 := hidden (HN.out (fun j hj hj2 => hno j (by omega) hj2))
        clear hno
        go_wp2
        go_ret
        exact ⟨ret_int HN2.out.symm, rfl⟩

end Go.Proofs.YtdpeacdilgcloaaR
