/- Two pairs of disks in one world; any act upon one of them. Own text. -/
import Derived.Test.YtdpeacdilgcloaaRD2
namespace Go.Proofs.YtdpeacdilgcloaaR
open Go.RowKit

theorem act_any (w : World) (bo br : Nat) (fp : List Nat) (s : DS) (h : Pair w bo br fp s) (K A B C : Int) (S : ByteArray) (hS : S.size ≤ maxLen) (hw : s.writes < 2932031100000)
    (hA : A ≤ 9223372036854775807) (hB : -9223372036854775808 ≤ B ∧ B ≤ 9223372036854775807) (hC : C ≤ 9223372036854775807) :
    Calls Try.prog 7 #[.pointer (some ⟨bo, 0, none⟩), .pointer (some ⟨br, 0, none⟩), .agg #[.int .i64 K, .int .i64 A, .int .i64 B, .int .i64 C, .string S]] w (Does w bo br fp s) := by
  by_cases k1 : K = 1
  · subst k1; exact act_write w bo br fp s h A B C S hS hw
  by_cases k2 : K = 2
  · subst k2; exact act_sector w bo br fp s h A B C S hS hw
  by_cases k3 : K = 3
  · subst k3; exact act_read w bo br fp s h A B C S hw
  by_cases k4 : K = 4
  · subst k4; exact act_sync w bo br fp s h A B C S hw
  by_cases k5 : K = 5
  · subst k5; exact act_fuse w bo br fp s h A B C S hA hB hC
  by_cases k6 : K = 6
  · subst k6; exact act_restart w bo br fp s h A B C S hw
  by_cases k7 : K = 7
  · subst k7; exact act_on w bo br fp s h A B C S
  by_cases k8 : K = 8
  · subst k8; exact act_writes w bo br fp s h A B C S
  by_cases k9 : K = 9
  · subst k9
    by_cases hin : 48 ≤ A ∧ A ≤ 128
    · obtain ⟨a, rfl⟩ := Int.eq_ofNat_of_zero_le (show 0 ≤ A by omega)
      exact act_new_ok w bo br fp s h a B C S (by omega) (by omega)
    · exact act_new_no w bo br fp s h A B C S (by omega)
  · exact act_other w bo br fp s h K A B C S (by simpa using k1) (by simpa using k2) (by simpa using k3) (by simpa using k4) (by simpa using k5) (by simpa using k6) (by simpa using k7) (by simpa using k8) (by simpa using k9)

/-- two pairs, nothing shared -/
structure Quad (w : World) (bo br bo' br' : Nat) (fp fp' : List Nat) (s s' : DS) : Prop where
  p : Pair w bo br fp s
  q : Pair w bo' br' fp' s'
  d : ∀ k ∈ fp, k ∉ fp'

theorem Quad.left {w w' : World} {bo br bo' br' : Nat} {fp fp' f1 : List Nat} {s s' s1 : DS} (h : Quad w bo br bo' br' fp fp' s s') (hP : Pair w' bo br f1 s1) (hK : Keeps fp f1 w w') : Quad w' bo br bo' br' f1 fp' s1 s' := by
  refine ⟨hP, h.q.frame (fun k hk => hK.block k (h.q.lt k hk) (fun hx => h.d k hx hk)), ?_⟩
  intro k hk hx
  rcases hK.new k hk with e | e
  · exact h.d k e hx
  · have := h.q.lt k hx; omega
theorem Quad.right {w w' : World} {bo br bo' br' : Nat} {fp fp' f1 : List Nat} {s s' s1 : DS} (h : Quad w bo br bo' br' fp fp' s s') (hP : Pair w' bo' br' f1 s1) (hK : Keeps fp' f1 w w') : Quad w' bo br bo' br' fp f1 s s1 := by
  refine ⟨h.p.frame (fun k hk => hK.block k (h.p.lt k hk) (fun hx => h.d k hk hx)), hP, ?_⟩
  intro k hk hx
  rcases hK.new k hx with e | e
  · exact h.d k hk e
  · have := h.p.lt k hk; omega

/-- nothing that lay below has changed; what there is now lies above -/
theorem over {w0 w w' : World} {fp f1 : List Nat} (h : Keeps [] [] w0 w) (hfp : ∀ k ∈ fp, w0.heap.size ≤ k) (hK : Keeps fp f1 w w') : Keeps [] [] w0 w' ∧ ∀ k ∈ f1, w0.heap.size ≤ k := by
  refine ⟨⟨hK.os.trans h.os, hK.tape.trans h.tape, hK.output.trans h.output, Nat.le_trans h.size hK.size, ?_, fun k hk => (by cases hk)⟩, ?_⟩
  · intro k hk hn
    refine (hK.block k (Nat.lt_of_lt_of_le hk h.size) ?_).trans (h.block k hk hn)
    intro hx
    have := hfp k hx
    omega
  · intro k hk
    rcases hK.new k hk with e | e
    · exact hfp k e
    · have := h.size; omega

/-- all that holds between two acts -/
structure Runs (w0 w : World) (bo br bo' br' : Nat) (n : Nat) : Prop where
  q : ∃ fp fp' s s', Quad w bo br bo' br' fp fp' s s' ∧ s.writes ≤ n ∧ s'.writes ≤ n ∧ (∀ k ∈ fp, w0.heap.size ≤ k) ∧ (∀ k ∈ fp', w0.heap.size ≤ k)
  k : Keeps [] [] w0 w

theorem Runs.mono {w0 w : World} {bo br bo' br' n m : Nat} (h : Runs w0 w bo br bo' br' n) (hm : n ≤ m) : Runs w0 w bo br bo' br' m := by
  obtain ⟨⟨fp, fp', s, s', hQ, h1, h2, h3, h4⟩, hk⟩ := h
  exact ⟨⟨fp, fp', s, s', hQ, by omega, by omega, h3, h4⟩, hk⟩

theorem runs_left {w0 w : World} {bo br bo' br' n : Nat} (h : Runs w0 w bo br bo' br' n) (hn : n < 2932031100000) (K A B C : Int) (S : ByteArray) (hS : S.size ≤ maxLen)
    (hA : A ≤ 9223372036854775807) (hB : -9223372036854775808 ≤ B ∧ B ≤ 9223372036854775807) (hC : C ≤ 9223372036854775807) :
    Calls Try.prog 7 #[.pointer (some ⟨bo, 0, none⟩), .pointer (some ⟨br, 0, none⟩), .agg #[.int .i64 K, .int .i64 A, .int .i64 B, .int .i64 C, .string S]] w (fun e w' => e = .returned (.bool true) ∧ Runs w0 w' bo br bo' br' (n + 1)) := by
  obtain ⟨⟨fp, fp', s, s', hQ, h1, h2, h3, h4⟩, hk⟩ := h
  refine (act_any w bo br fp s hQ.p K A B C S hS (by omega) hA hB hC).mono ?_
  rintro e w' ⟨rfl, f1, s1, hP, hw, hK⟩
  obtain ⟨o1, o2⟩ := over hk h3 hK
  exact ⟨rfl, ⟨f1, fp', s1, s', hQ.left hP hK, by omega, by omega, o2, h4⟩, o1⟩
theorem runs_right {w0 w : World} {bo br bo' br' n : Nat} (h : Runs w0 w bo br bo' br' n) (hn : n < 2932031100000) (K A B C : Int) (S : ByteArray) (hS : S.size ≤ maxLen)
    (hA : A ≤ 9223372036854775807) (hB : -9223372036854775808 ≤ B ∧ B ≤ 9223372036854775807) (hC : C ≤ 9223372036854775807) :
    Calls Try.prog 7 #[.pointer (some ⟨bo', 0, none⟩), .pointer (some ⟨br', 0, none⟩), .agg #[.int .i64 K, .int .i64 A, .int .i64 B, .int .i64 C, .string S]] w (fun e w' => e = .returned (.bool true) ∧ Runs w0 w' bo br bo' br' (n + 1)) := by
  obtain ⟨⟨fp, fp', s, s', hQ, h1, h2, h3, h4⟩, hk⟩ := h
  refine (act_any w bo' br' fp' s' hQ.q K A B C S hS (by omega) hA hB hC).mono ?_
  rintro e w' ⟨rfl, f1, s1, hP, hw, hK⟩
  obtain ⟨o1, o2⟩ := over hk h4 hK
  exact ⟨rfl, ⟨fp, f1, s, s1, hQ.right hP hK, by omega, by omega, h3, o2⟩, o1⟩

/-- Restart of one of the four, and of the one that goes with it -/
theorem pair_restart {w w1 w2 : World} {bo br : Nat} {fo fr fo1 fr1 : List Nat} {s : DS} (hd : ∀ k ∈ fo, k ∉ fr) (hfr : ∀ k ∈ fr, k < w.heap.size) (hO : OD w1 bo fo1 s.restart) (hK1 : Keeps fo fo1 w w1) (hR : RD w2 br fr1 s.restart) (hK2 : Keeps fr fr1 w1 w2) :
    ∃ fp', Pair w2 bo br fp' s.restart ∧ Keeps (fo ++ fr) fp' w w2 := pair_step hO hK1 hd hfr hR hK2


theorem runs_restart_left {w0 w : World} {bo br bo' br' n : Nat} (h : Runs w0 w bo br bo' br' n) (hn : n < 2932031100000) :
    Calls Try.prog 8 #[.pointer (some ⟨bo, 0, none⟩)] w (fun e w1 => e = .returned (.tuple #[]) ∧ Calls Try.prog 9 #[.pointer (some ⟨br, 0, none⟩)] w1 (fun e w' => e = .returned (.tuple #[]) ∧ Runs w0 w' bo br bo' br' n)) := by
  obtain ⟨⟨fp, fp', s, s', hQ, h1, h2, h3, h4⟩, hk⟩ := h
  obtain ⟨fo, fr, hO, hR, hd, rfl⟩ := hQ.p
  refine (orestart_any w bo fo s hO (by omega)).mono ?_
  rintro e w1 ⟨rfl, fo1, hO1, hK1⟩
  refine ⟨rfl, ?_⟩
  refine (rrestart_any w1 br fr s (hR.frame (fun k hk => hK1.block k (hR.lt k hk) (fun hx => hd k hx hk))) (by omega)).mono ?_
  rintro e w2 ⟨rfl, fr1, hR1, hK2⟩
  obtain ⟨f1, hP, hK⟩ := pair_step hO1 hK1 hd (fun k hk => hR.lt k hk) hR1 hK2
  obtain ⟨o1, o2⟩ := over hk h3 hK
  exact ⟨rfl, ⟨f1, fp', s.restart, s', hQ.left hP hK, by rw [writes_restart]; omega, by omega, o2, h4⟩, o1⟩
theorem runs_restart_right {w0 w : World} {bo br bo' br' n : Nat} (h : Runs w0 w bo br bo' br' n) (hn : n < 2932031100000) :
    Calls Try.prog 8 #[.pointer (some ⟨bo', 0, none⟩)] w (fun e w1 => e = .returned (.tuple #[]) ∧ Calls Try.prog 9 #[.pointer (some ⟨br', 0, none⟩)] w1 (fun e w' => e = .returned (.tuple #[]) ∧ Runs w0 w' bo br bo' br' n)) := by
  obtain ⟨⟨fp, fp', s, s', hQ, h1, h2, h3, h4⟩, hk⟩ := h
  obtain ⟨fo, fr, hO, hR, hd, rfl⟩ := hQ.q
  refine (orestart_any w bo' fo s' hO (by omega)).mono ?_
  rintro e w1 ⟨rfl, fo1, hO1, hK1⟩
  refine ⟨rfl, ?_⟩
  refine (rrestart_any w1 br' fr s' (hR.frame (fun k hk => hK1.block k (hR.lt k hk) (fun hx => hd k hx hk))) (by omega)).mono ?_
  rintro e w2 ⟨rfl, fr1, hR1, hK2⟩
  obtain ⟨f1, hP, hK⟩ := pair_step hO1 hK1 hd (fun k hk => hR.lt k hk) hR1 hK2
  obtain ⟨o1, o2⟩ := over hk h4 hK
  exact ⟨rfl, ⟨fp, f1, s, s'.restart, hQ.right hP hK, by omega, by rw [writes_restart]; omega, h3, o2⟩, o1⟩

/-- one pair alone (where the first disk was refused) -/
structure Runs1 (w0 w : World) (bo br : Nat) (n : Nat) : Prop where
  q : ∃ fp s, Pair w bo br fp s ∧ s.writes ≤ n ∧ (∀ k ∈ fp, w0.heap.size ≤ k)
  k : Keeps [] [] w0 w

theorem runs1_act {w0 w : World} {bo br n : Nat} (h : Runs1 w0 w bo br n) (hn : n < 2932031100000) (K A B C : Int) (S : ByteArray) (hS : S.size ≤ maxLen)
    (hA : A ≤ 9223372036854775807) (hB : -9223372036854775808 ≤ B ∧ B ≤ 9223372036854775807) (hC : C ≤ 9223372036854775807) :
    Calls Try.prog 7 #[.pointer (some ⟨bo, 0, none⟩), .pointer (some ⟨br, 0, none⟩), .agg #[.int .i64 K, .int .i64 A, .int .i64 B, .int .i64 C, .string S]] w (fun e w' => e = .returned (.bool true) ∧ Runs1 w0 w' bo br (n + 1)) := by
  obtain ⟨⟨fp, s, hP0, h1, h3⟩, hk⟩ := h
  refine (act_any w bo br fp s hP0 K A B C S hS (by omega) hA hB hC).mono ?_
  rintro e w' ⟨rfl, f1, s1, hP, hw, hK⟩
  obtain ⟨o1, o2⟩ := over hk h3 hK
  exact ⟨rfl, ⟨f1, s1, hP, by omega, o2⟩, o1⟩
theorem runs1_restart {w0 w : World} {bo br n : Nat} (h : Runs1 w0 w bo br n) (hn : n < 2932031100000) :
    Calls Try.prog 8 #[.pointer (some ⟨bo, 0, none⟩)] w (fun e w1 => e = .returned (.tuple #[]) ∧ Calls Try.prog 9 #[.pointer (some ⟨br, 0, none⟩)] w1 (fun e w' => e = .returned (.tuple #[]) ∧ Runs1 w0 w' bo br n)) := by
  obtain ⟨⟨fp, s, hP0, h1, h3⟩, hk⟩ := h
  obtain ⟨fo, fr, hO, hR, hd, rfl⟩ := hP0
  refine (orestart_any w bo fo s hO (by omega)).mono ?_
  rintro e w1 ⟨rfl, fo1, hO1, hK1⟩
  refine ⟨rfl, ?_⟩
  refine (rrestart_any w1 br fr s (hR.frame (fun k hk => hK1.block k (hR.lt k hk) (fun hx => hd k hx hk))) (by omega)).mono ?_
  rintro e w2 ⟨rfl, fr1, hR1, hK2⟩
  obtain ⟨f1, hP, hK⟩ := pair_step hO1 hK1 hd (fun k hk => hR.lt k hk) hR1 hK2
  obtain ⟨o1, o2⟩ := over hk h3 hK
  exact ⟨rfl, ⟨f1, s.restart, hP, by rw [writes_restart]; omega, o2⟩, o1⟩

/-! ### The four disks at first -/
theorem pair_new {w w1 w2 : World} {bo br k : Nat} {fo fr : List Nat} (hO : OD w1 bo fo (DS.born k)) (hK1 : Keeps [] fo w w1) (hR : RD w2 br fr (DS.born k)) (hK2 : Keeps [] fr w1 w2) :
    ∃ fp, Pair w2 bo br fp (DS.born k) ∧ Keeps [] fp w w2 := by
  have := pair_step (fo := []) (fr := []) hO hK1 (fun _ h => by cases h) (fun _ h => by cases h) hR hK2
  exact this
theorem keeps_none {w w1 : World} {fp : List Nat} (h : Keeps [] fp w w1) : Keeps [] [] w w1 ∧ ∀ k ∈ fp, w.heap.size ≤ k :=
  ⟨h.sub (fun _ h => by cases h), fun k hk => (h.new k hk).elim (fun h => by cases h) id⟩
theorem runs_new {w w2 w4 : World} {bo br bo' br' k k' : Nat} {fp fp' : List Nat} (hP : Pair w2 bo br fp (DS.born k)) (hK : Keeps [] fp w w2) (hP' : Pair w4 bo' br' fp' (DS.born k')) (hK' : Keeps [] fp' w2 w4) : Runs w w4 bo br bo' br' 0 := by
  obtain ⟨a1, a2⟩ := keeps_none hK
  obtain ⟨b1, b2⟩ := keeps_none hK'
  refine ⟨⟨fp, fp', _, _, ⟨hP.frame (fun x hx => hK'.block x (hP.lt x hx) (by simp)), hP', ?_⟩, Nat.le_refl _, Nat.le_refl _, a2, ?_⟩, a1.trans b1⟩
  · intro x hx hx'
    have := hP.lt x hx
    have := b2 x hx'
    omega
  · intro x hx
    have := b2 x hx
    have := hK.size
    omega
theorem runs1_new {w w2 : World} {bo br k : Nat} {fp : List Nat} (hP : Pair w2 bo br fp (DS.born k)) (hK : Keeps [] fp w w2) : Runs1 w w2 bo br 0 := by
  obtain ⟨a1, a2⟩ := keeps_none hK
  exact ⟨⟨fp, _, hP, Nat.le_refl _, a2⟩, a1⟩

end Go.Proofs.YtdpeacdilgcloaaR
