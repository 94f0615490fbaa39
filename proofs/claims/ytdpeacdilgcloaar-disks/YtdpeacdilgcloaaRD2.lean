/- One act upon the two disks ('disk' of the statement): both answer alike, and go on alike. Own text. -/
import Derived.Test.YtdpeacdilgcloaaRD1
import Derived.Test.YtdpeacdilgcloaaRW7
namespace Go.Proofs.YtdpeacdilgcloaaR
open Go.RowKit

/-- the program's disk and the document's, in one world, with nothing shared -/
def Pair (w : World) (bo br : Nat) (fp : List Nat) (s : DS) : Prop := ∃ fo fr, OD w bo fo s ∧ RD w br fr s ∧ (∀ k ∈ fo, k ∉ fr) ∧ fp = fo ++ fr

theorem Pair.lt {w : World} {bo br : Nat} {fp : List Nat} {s : DS} (h : Pair w bo br fp s) : ∀ k ∈ fp, k < w.heap.size := by
  obtain ⟨fo, fr, hO, hR, _, rfl⟩ := h
  intro k hk
  rcases List.mem_append.1 hk with hk | hk
  · exact hO.lt k hk
  · exact hR.lt k hk
theorem Pair.frame {w w' : World} {bo br : Nat} {fp : List Nat} {s : DS} (h : Pair w bo br fp s) (hk : ∀ k ∈ fp, w'.heap[k]? = w.heap[k]?) : Pair w' bo br fp s := by
  obtain ⟨fo, fr, hO, hR, hd, rfl⟩ := h
  exact ⟨fo, fr, hO.frame (fun k h => hk k (by simp [h])), hR.frame (fun k h => hk k (by simp [h])), hd, rfl⟩
theorem Pair.wf {w : World} {bo br : Nat} {fp : List Nat} {s : DS} (h : Pair w bo br fp s) : s.Wf := by
  obtain ⟨fo, fr, hO, _⟩ := h
  exact hO.wf
theorem Pair.alloc {w : World} {bo br : Nat} {fp : List Nat} {s : DS} (h : Pair w bo br fp s) (X : Obj) : Pair (w.alloc X) bo br fp s := h.frame (fun k hk => oldB _ _ _ (h.lt k hk))

theorem pair_step {w0 w1 w2 : World} {bo br : Nat} {fo fr fo1 fr1 : List Nat} {s1 : DS} (hO : OD w1 bo fo1 s1) (hK1 : Keeps fo fo1 w0 w1) (hdis : ∀ k ∈ fo, k ∉ fr) (hfr : ∀ k ∈ fr, k < w0.heap.size)
    (hR : RD w2 br fr1 s1) (hK2 : Keeps fr fr1 w1 w2) : ∃ fp', Pair w2 bo br fp' s1 ∧ Keeps (fo ++ fr) fp' w0 w2 := by
  have d1 : ∀ k ∈ fo1, k ∉ fr := by
    intro k hk hx
    rcases hK1.new k hk with h | h
    · exact hdis k h hx
    · have := hfr k hx; omega
  have l1 := hO.lt
  refine ⟨fo1 ++ fr1, ⟨fo1, fr1, hO.frame (fun k hk => hK2.block k (l1 k hk) (d1 k hk)), hR, ?_, rfl⟩, ?_⟩
  · intro k hk hx
    rcases hK2.new k hx with h | h
    · exact d1 k hk h
    · have := l1 k hk; omega
  · refine ⟨hK2.os.trans hK1.os, hK2.tape.trans hK1.tape, hK2.output.trans hK1.output, Nat.le_trans hK1.size hK2.size, ?_, ?_⟩
    · intro k hk hn
      have hn1 : k ∉ fo := fun h => hn (by simp [h])
      have hn2 : k ∉ fr := fun h => hn (by simp [h])
      exact (hK2.block k (Nat.lt_of_lt_of_le hk hK1.size) hn2).trans (hK1.block k hk hn1)
    · intro k hk
      rcases List.mem_append.1 hk with hk | hk
      · rcases hK1.new k hk with h | h
        · exact .inl (by simp [h])
        · exact .inr h
      · rcases hK2.new k hk with h | h
        · exact .inl (by simp [h])
        · exact .inr (Nat.le_trans hK1.size h)

theorem writes_write (s : DS) (a : Int) (d : List UInt8) : (s.write a d).1.writes ≤ s.writes + 1 := by
  unfold DS.write
  split
  · split
    · split
      · show s.spend.1.writes + 1 ≤ _; rw [spend_writes]; exact Nat.le_refl _
      · rw [spend_writes]; omega
    · exact Nat.le_succ _
  · exact Nat.le_succ _
theorem writes_sync (s : DS) : s.sync.1.writes = s.writes := by
  unfold DS.sync
  split
  · exact spend_writes s
  · exact spend_writes s
theorem writes_fuse (s : DS) (a m t : Int) : (s.setFuse a m t).writes = s.writes := by
  unfold DS.setFuse
  split <;> rfl
theorem writes_restart (s : DS) : s.restart.writes = s.writes := by
  unfold DS.restart
  split <;> rfl

def deedV (K A B C : Int) (S : ByteArray) : Value := .agg #[.int .i64 K, .int .i64 A, .int .i64 B, .int .i64 C, .string S]

/-- what an act comes to -/
def Does (w : World) (bo br : Nat) (fp : List Nat) (s : DS) (e : Ending) (w' : World) : Prop :=
  e = .returned (.bool true) ∧ ∃ fp' s', Pair w' bo br fp' s' ∧ s'.writes ≤ s.writes + 1 ∧ Keeps fp fp' w w'

theorem does_of {w w0 w2 : World} {bo br : Nat} {fp : List Nat} {s : DS} (X : Obj) (h0 : w0 = w.alloc X) {s1 : DS} (h : ∃ fp', Pair w2 bo br fp' s1 ∧ Keeps fp fp' w0 w2) (hw : s1.writes ≤ s.writes + 1) : ∃ fp' s', Pair w2 bo br fp' s' ∧ s'.writes ≤ s.writes + 1 ∧ Keeps fp fp' w w2 := by
  obtain ⟨fp', hP, hK⟩ := h
  subst h0
  exact ⟨fp', s1, hP, hw, ((Keeps.refl fp w).alloc X).trans hK⟩

/-- all that an act needs to know of the world behind the making of its own deed -/
structure Base (w w0 : World) (bo br b : Nat) (X : Obj) (fo fr : List Nat) (s : DS) : Prop where
  hO : OD w0 bo fo s
  hR : RD w0 br fr s
  hd : ∀ k ∈ fo, k ∉ fr
  hb : w0.heap[b]? = some X
  hn : b ∉ fo
  hK : Keeps (fo ++ fr) (fo ++ fr) w w0

theorem Base.of {w : World} {bo br : Nat} {fp : List Nat} {s : DS} (h : Pair w bo br fp s) (X : Obj) : ∃ fo fr, fp = fo ++ fr ∧ Base w (w.alloc X) bo br w.heap.size X fo fr s := by
  have hlt := h.lt
  obtain ⟨fo, fr, hO, hR, hd, rfl⟩ := h.alloc X
  exact ⟨fo, fr, rfl, hO, hR, hd, newB w X, fun hx => by have := hlt _ (List.mem_append_left _ hx); omega, (Keeps.refl _ w).alloc X⟩
theorem Base.later {w w0 w1 : World} {bo br b : Nat} {X : Obj} {fo fr : List Nat} {s : DS} (h : Base w w0 bo br b X fo fr s) (hK : Keeps [] [] w0 w1) : Base w w1 bo br b X fo fr s := by
  have k : ∀ x, x < w0.heap.size → w1.heap[x]? = w0.heap[x]? := fun x hx => hK.block x hx (by simp)
  exact ⟨h.hO.frame (fun x hx => k x (h.hO.lt x hx)), h.hR.frame (fun x hx => k x (h.hR.lt x hx)), h.hd, (k b (lt_of_block h.hb)).trans h.hb, h.hn, h.hK.trans ((hK.wide (f' := fo ++ fr) (fun _ h => by cases h)).newer (fun x hx => .inl hx))⟩
theorem Base.blk {w w0 w1 : World} {bo br b : Nat} {X : Obj} {fo fr fo1 : List Nat} {s : DS} (h : Base w w0 bo br b X fo fr s) (hK : Keeps fo fo1 w0 w1) : w1.heap[b]? = some X := (hK.block b (lt_of_block h.hb) h.hn).trans h.hb
theorem Base.ref {w w0 w1 : World} {bo br b : Nat} {X : Obj} {fo fr fo1 : List Nat} {s : DS} (h : Base w w0 bo br b X fo fr s) (hK : Keeps fo fo1 w0 w1) : RD w1 br fr s :=
  h.hR.frame (fun k hk => hK.block k (h.hR.lt k hk) (fun hx => h.hd k hx hk))
theorem Base.done {w w0 w1 w2 : World} {bo br b : Nat} {X : Obj} {fo fr fo1 fr1 : List Nat} {s s1 : DS} (h : Base w w0 bo br b X fo fr s) (hO1 : OD w1 bo fo1 s1) (hK1 : Keeps fo fo1 w0 w1) (hR1 : RD w2 br fr1 s1) (hK2 : Keeps fr fr1 w1 w2)
    (hw : s1.writes ≤ s.writes + 1) : ∃ fp' s', Pair w2 bo br fp' s' ∧ s'.writes ≤ s.writes + 1 ∧ Keeps (fo ++ fr) fp' w w2 := by
  obtain ⟨fp', hP, hK⟩ := pair_step hO1 hK1 h.hd (fun k hk => h.hR.lt k hk) hR1 hK2
  exact ⟨fp', s1, hP, hw, h.hK.trans hK⟩
theorem Base.same {w w0 : World} {bo br b : Nat} {X : Obj} {fo fr : List Nat} {s : DS} (h : Base w w0 bo br b X fo fr s) : ∃ fp' s', Pair w0 bo br fp' s' ∧ s'.writes ≤ s.writes + 1 ∧ Keeps (fo ++ fr) fp' w w0 :=
  ⟨fo ++ fr, s, ⟨fo, fr, h.hO, h.hR, h.hd, rfl⟩, Nat.le_succ _, h.hK⟩

theorem rfuse_rd (w : World) (br : Nat) (fp : List Nat) (s : DS) (h : RD w br fp s) (a k c : Int) (ha : a ≤ 9223372036854775807) (hm : -9223372036854775808 ≤ k ∧ k ≤ 9223372036854775807) (hc : c ≤ 9223372036854775807) :
    Calls Try.prog 22 #[.pointer (some ⟨br, 0, none⟩), .int .i64 a, .int .i64 k, .int .i64 c] w fun e w' => e = .returned (.tuple #[]) ∧ ∃ fp', RD w' br fp' (s.setFuse a k c) ∧ Keeps fp fp' w w' := by
  obtain ⟨L, O, l, m, t, h, rfl⟩ := h
  refine (rfuse_any w br L O l m t s h a k c ha hm hc).mono ?_
  rintro e w' ⟨rfl, ⟨l', m', t', hR⟩, hK⟩
  exact ⟨rfl, _, ⟨_, _, _, _, _, hR, rfl⟩, hK⟩
theorem ron_rd (w : World) (br : Nat) (fp : List Nat) (s : DS) (h : RD w br fp s) : Calls Try.prog 24 #[.pointer (some ⟨br, 0, none⟩)] w fun e w' => e = .returned (.bool s.on) ∧ w = w' := by
  obtain ⟨L, O, l, m, t, h, rfl⟩ := h
  exact ron_any w br s.on h.c2
theorem rwrites_rd (w : World) (br : Nat) (fp : List Nat) (s : DS) (h : RD w br fp s) : Calls Try.prog 26 #[.pointer (some ⟨br, 0, none⟩)] w fun e w' => e = .returned (.int .i64 s.writes) ∧ w = w' := by
  obtain ⟨L, O, l, m, t, h, rfl⟩ := h
  exact rwrites_any w br s.writes h.c7
theorem rread_str (w : World) (br : Nat) (fp : List Nat) (s : DS) (h : RD w br fp s) (at_ : Int) (hw : s.writes ≤ 4000000000000) :
    Calls Try.prog 18 #[.pointer (some ⟨br, 0, none⟩), .int .i64 at_] w fun e w' => e = .returned (.tuple #[.string ⟨(s.read at_).1.toArray⟩, .int .i64 (s.read at_).2]) ∧ w = w' := by
  obtain ⟨L, O, l, m, t, h, rfl⟩ := h
  exact rread_any w br L O l m t s h at_ hw
theorem oread_str (w : World) (bo : Nat) (fp : List Nat) (s : DS) (h : OD w bo fp s) (at_ : Int) :
    Calls Try.prog 17 #[.pointer (some ⟨bo, 0, none⟩), .int .i64 at_] w fun e w' => e = .returned (.tuple #[.string ⟨(s.read at_).1.toArray⟩, .int .i64 (s.read at_).2]) ∧ w = w' := oread_any w bo fp s h at_

set_option maxRecDepth 100000 in
set_option maxHeartbeats 1000000 in
theorem act_write (w : World) (bo br : Nat) (fp : List Nat) (s : DS) (h : Pair w bo br fp s) (A B C : Int) (S : ByteArray) (hS : S.size ≤ maxLen) (hw : s.writes < 2932031100000) :
    Calls Try.prog 7 #[.pointer (some ⟨bo, 0, none⟩), .pointer (some ⟨br, 0, none⟩), .agg #[.int .i64 1, .int .i64 A, .int .i64 B, .int .i64 C, .string S]] w (Does w bo br fp s) := by
  unfold Does
  obtain ⟨fo, fr, rfl, hB⟩ := Base.of h (.cells #[.int .i64 1, .int .i64 A, .int .i64 B, .int .i64 C, .string S] 32)
  have H1 := hidden (owrite_any _ bo fo s hB.hO A S hS hw)
  have H2 := hidden (fun w1 fo1 (hK : Keeps fo fo1 _ w1) => rwrite_any w1 br fr s (hB.ref hK) A S hS hw)
  have HW := hidden (writes_write s A S.data.toList)
  have HB := hidden hB
  clear hB h
  go_enter Try.func7, Try.ntmps7
  go_wp2_with fail
  refine H1.out.mono ?_
  rintro e w1 ⟨rfl, fo1, hO1, hK1⟩
  have hb1 := HB.out.blk hK1
  have d1 : w1.cell? ⟨w.heap.size, 1, none⟩ = some (.int .i64 A) := by rw [cell_of_row _ _ 1 _ _ _ hb1]; rfl
  have d4 : w1.cell? ⟨w.heap.size, 4, none⟩ = some (.string S) := by rw [cell_of_row _ _ 4 _ _ _ hb1]; rfl
  have H2' := hidden (H2.out w1 fo1 hK1)
  have HO1 := hidden hO1
  have HK1 := hidden hK1
  clear hb1 hO1 hK1 H1 H2
  go_wp2_with fail
  refine H2'.out.mono ?_
  rintro e w2 ⟨rfl, fr1, hR1, hK2⟩
  have HC := hidden (HB.out.done HO1.out HK1.out hR1 hK2 HW.out)
  clear hR1 hK2 H2' HO1 HK1 HB
  go_wp2
  go_ret
  exact ⟨rfl, HC.out⟩

set_option maxRecDepth 100000 in
set_option maxHeartbeats 1000000 in
theorem act_sync (w : World) (bo br : Nat) (fp : List Nat) (s : DS) (h : Pair w bo br fp s) (A B C : Int) (S : ByteArray) (hw : s.writes < 2932031100000) :
    Calls Try.prog 7 #[.pointer (some ⟨bo, 0, none⟩), .pointer (some ⟨br, 0, none⟩), .agg #[.int .i64 4, .int .i64 A, .int .i64 B, .int .i64 C, .string S]] w (Does w bo br fp s) := by
  unfold Does
  obtain ⟨fo, fr, rfl, hB⟩ := Base.of h (.cells #[.int .i64 4, .int .i64 A, .int .i64 B, .int .i64 C, .string S] 32)
  have H1 := hidden (osync_any _ bo fo s hB.hO (by omega))
  have H2 := hidden (fun w1 fo1 (hK : Keeps fo fo1 _ w1) => rsync_any w1 br fr s (hB.ref hK) (by omega))
  have HW := hidden (Nat.le_trans (Nat.le_of_eq (writes_sync s)) (Nat.le_succ _))
  have HB := hidden hB
  clear hB h
  go_enter Try.func7, Try.ntmps7
  go_wp2_with fail
  refine H1.out.mono ?_
  rintro e w1 ⟨rfl, fo1, hO1, hK1⟩
  have hb1 := HB.out.blk hK1
  have H2' := hidden (H2.out w1 fo1 hK1)
  have HO1 := hidden hO1
  have HK1 := hidden hK1
  clear hb1 hO1 hK1 H1 H2
  go_wp2_with fail
  refine H2'.out.mono ?_
  rintro e w2 ⟨rfl, fr1, hR1, hK2⟩
  have HC := hidden (HB.out.done HO1.out HK1.out hR1 hK2 HW.out)
  clear hR1 hK2 H2' HO1 HK1 HB
  go_wp2
  go_ret
  exact ⟨rfl, HC.out⟩

set_option maxRecDepth 100000 in
set_option maxHeartbeats 1000000 in
theorem act_fuse (w : World) (bo br : Nat) (fp : List Nat) (s : DS) (h : Pair w bo br fp s) (A B C : Int) (S : ByteArray) (hA : A ≤ 9223372036854775807) (hBb : -9223372036854775808 ≤ B ∧ B ≤ 9223372036854775807) (hC : C ≤ 9223372036854775807) :
    Calls Try.prog 7 #[.pointer (some ⟨bo, 0, none⟩), .pointer (some ⟨br, 0, none⟩), .agg #[.int .i64 5, .int .i64 A, .int .i64 B, .int .i64 C, .string S]] w (Does w bo br fp s) := by
  unfold Does
  obtain ⟨fo, fr, rfl, hB⟩ := Base.of h (.cells #[.int .i64 5, .int .i64 A, .int .i64 B, .int .i64 C, .string S] 32)
  have H1 := hidden (ofuse_any _ bo fo s hB.hO A B C hA hBb hC)
  have H2 := hidden (fun w1 fo1 (hK : Keeps fo fo1 _ w1) => rfuse_rd w1 br fr s (hB.ref hK) A B C hA hBb hC)
  have HW := hidden (Nat.le_trans (Nat.le_of_eq (writes_fuse s A B C)) (Nat.le_succ _))
  have HB := hidden hB
  clear hB h
  go_enter Try.func7, Try.ntmps7
  go_wp2_with fail
  refine H1.out.mono ?_
  rintro e w1 ⟨rfl, fo1, hO1, hK1⟩
  have hb1 := HB.out.blk hK1
  have d1 : w1.cell? ⟨w.heap.size, 1, none⟩ = some (.int .i64 A) := by rw [cell_of_row _ _ 1 _ _ _ hb1]; rfl
  have d2 : w1.cell? ⟨w.heap.size, 2, none⟩ = some (.int .i64 B) := by rw [cell_of_row _ _ 2 _ _ _ hb1]; rfl
  have d3 : w1.cell? ⟨w.heap.size, 3, none⟩ = some (.int .i64 C) := by rw [cell_of_row _ _ 3 _ _ _ hb1]; rfl
  have H2' := hidden (H2.out w1 fo1 hK1)
  have HO1 := hidden hO1
  have HK1 := hidden hK1
  clear hb1 hO1 hK1 H1 H2
  go_wp2_with fail
  refine H2'.out.mono ?_
  rintro e w2 ⟨rfl, fr1, hR1, hK2⟩
  have HC := hidden (HB.out.done HO1.out HK1.out hR1 hK2 HW.out)
  clear hR1 hK2 H2' HO1 HK1 HB
  go_wp2
  go_ret
  exact ⟨rfl, HC.out⟩

set_option maxRecDepth 100000 in
set_option maxHeartbeats 1000000 in
theorem act_restart (w : World) (bo br : Nat) (fp : List Nat) (s : DS) (h : Pair w bo br fp s) (A B C : Int) (S : ByteArray) (hw : s.writes < 2932031100000) :
    Calls Try.prog 7 #[.pointer (some ⟨bo, 0, none⟩), .pointer (some ⟨br, 0, none⟩), .agg #[.int .i64 6, .int .i64 A, .int .i64 B, .int .i64 C, .string S]] w (Does w bo br fp s) := by
  unfold Does
  obtain ⟨fo, fr, rfl, hB⟩ := Base.of h (.cells #[.int .i64 6, .int .i64 A, .int .i64 B, .int .i64 C, .string S] 32)
  have H1 := hidden (orestart_any _ bo fo s hB.hO (by omega))
  have H2 := hidden (fun w1 fo1 (hK : Keeps fo fo1 _ w1) => rrestart_any w1 br fr s (hB.ref hK) (by omega))
  have HW := hidden (Nat.le_trans (Nat.le_of_eq (writes_restart s)) (Nat.le_succ _))
  have HB := hidden hB
  clear hB h
  go_enter Try.func7, Try.ntmps7
  go_wp2_with fail
  refine H1.out.mono ?_
  rintro e w1 ⟨rfl, fo1, hO1, hK1⟩
  have hb1 := HB.out.blk hK1
  have H2' := hidden (H2.out w1 fo1 hK1)
  have HO1 := hidden hO1
  have HK1 := hidden hK1
  clear hb1 hO1 hK1 H1 H2
  go_wp2_with fail
  refine H2'.out.mono ?_
  rintro e w2 ⟨rfl, fr1, hR1, hK2⟩
  have HC := hidden (HB.out.done HO1.out HK1.out hR1 hK2 HW.out)
  clear hR1 hK2 H2' HO1 HK1 HB
  go_wp2
  go_ret
  exact ⟨rfl, HC.out⟩

set_option maxRecDepth 100000 in
set_option maxHeartbeats 1000000 in
theorem act_on (w : World) (bo br : Nat) (fp : List Nat) (s : DS) (h : Pair w bo br fp s) (A B C : Int) (S : ByteArray) :
    Calls Try.prog 7 #[.pointer (some ⟨bo, 0, none⟩), .pointer (some ⟨br, 0, none⟩), .agg #[.int .i64 7, .int .i64 A, .int .i64 B, .int .i64 C, .string S]] w (Does w bo br fp s) := by
  unfold Does
  obtain ⟨fo, fr, rfl, hB⟩ := Base.of h (.cells #[.int .i64 7, .int .i64 A, .int .i64 B, .int .i64 C, .string S] 32)
  have H1 := hidden (oon_any _ bo fo s hB.hO)
  have H2 := hidden (ron_rd _ br fr s hB.hR)
  have HC := hidden hB.same
  clear hB h
  go_enter Try.func7, Try.ntmps7
  go_wp2_with fail
  refine H1.out.mono ?_
  rintro e w1 ⟨rfl, rfl⟩
  go_wp2_with fail
  refine H2.out.mono ?_
  rintro e w1 ⟨rfl, rfl⟩
  go_wp2
  go_ret
  exact ⟨rfl, HC.out⟩

set_option maxRecDepth 100000 in
set_option maxHeartbeats 1000000 in
theorem act_writes (w : World) (bo br : Nat) (fp : List Nat) (s : DS) (h : Pair w bo br fp s) (A B C : Int) (S : ByteArray) :
    Calls Try.prog 7 #[.pointer (some ⟨bo, 0, none⟩), .pointer (some ⟨br, 0, none⟩), .agg #[.int .i64 8, .int .i64 A, .int .i64 B, .int .i64 C, .string S]] w (Does w bo br fp s) := by
  unfold Does
  obtain ⟨fo, fr, rfl, hB⟩ := Base.of h (.cells #[.int .i64 8, .int .i64 A, .int .i64 B, .int .i64 C, .string S] 32)
  have H1 := hidden (owrites_any _ bo fo s hB.hO)
  have H2 := hidden (rwrites_rd _ br fr s hB.hR)
  have HC := hidden hB.same
  clear hB h
  go_enter Try.func7, Try.ntmps7
  go_wp2_with fail
  refine H1.out.mono ?_
  rintro e w1 ⟨rfl, rfl⟩
  go_wp2_with fail
  refine H2.out.mono ?_
  rintro e w1 ⟨rfl, rfl⟩
  go_wp2
  go_ret
  exact ⟨rfl, HC.out⟩

set_option maxRecDepth 100000 in
set_option maxHeartbeats 1000000 in
theorem act_read (w : World) (bo br : Nat) (fp : List Nat) (s : DS) (h : Pair w bo br fp s) (A B C : Int) (S : ByteArray) (hw : s.writes < 2932031100000) :
    Calls Try.prog 7 #[.pointer (some ⟨bo, 0, none⟩), .pointer (some ⟨br, 0, none⟩), .agg #[.int .i64 3, .int .i64 A, .int .i64 B, .int .i64 C, .string S]] w (Does w bo br fp s) := by
  unfold Does
  obtain ⟨fo, fr, rfl, hB⟩ := Base.of h (.cells #[.int .i64 3, .int .i64 A, .int .i64 B, .int .i64 C, .string S] 32)
  have H1 := hidden (oread_str _ bo fo s hB.hO A)
  have H2 := hidden (rread_str _ br fr s hB.hR A (by omega))
  have HC := hidden hB.same
  clear hB h
  go_enter Try.func7, Try.ntmps7
  go_wp2_with fail
  refine H1.out.mono ?_
  rintro e w1 ⟨rfl, rfl⟩
  go_wp2_with fail
  refine H2.out.mono ?_
  rintro e w1 ⟨rfl, rfl⟩
  go_wp2
  go_ret
  exact ⟨rfl, HC.out⟩

set_option maxRecDepth 100000 in
set_option maxHeartbeats 1000000 in
theorem act_sector (w : World) (bo br : Nat) (fp : List Nat) (s : DS) (h : Pair w bo br fp s) (A B C : Int) (S : ByteArray) (hS : S.size ≤ maxLen) (hw : s.writes < 2932031100000) :
    Calls Try.prog 7 #[.pointer (some ⟨bo, 0, none⟩), .pointer (some ⟨br, 0, none⟩), .agg #[.int .i64 2, .int .i64 A, .int .i64 B, .int .i64 C, .string S]] w (Does w bo br fp s) := by
  unfold Does
  obtain ⟨fo, fr, rfl, hB⟩ := Base.of h (.cells #[.int .i64 2, .int .i64 A, .int .i64 B, .int .i64 C, .string S] 32)
  have H0 := hidden (full_any (w.alloc (.cells #[.int .i64 2, .int .i64 A, .int .i64 B, .int .i64 C, .string S] 32)) S B hS)
  have HB0 := hidden hB
  clear hB h
  go_enter Try.func7, Try.ntmps7
  go_wp2_with fail
  refine H0.out.mono ?_
  rintro e w0 ⟨T, rfl, hT, hK0⟩
  have hB := HB0.out.later hK0
  have hT2 : T.size ≤ maxLen := by rw [hT]; unfold maxLen; omega
  have d1 : w0.cell? ⟨w.heap.size, 1, none⟩ = some (.int .i64 A) := by rw [cell_of_row _ _ 1 _ _ _ hB.hb]; rfl
  have H1 := hidden (owrite_any _ bo fo s hB.hO A T hT2 hw)
  have H2 := hidden (fun w1 fo1 (hK : Keeps fo fo1 _ w1) => rwrite_any w1 br fr s (hB.ref hK) A T hT2 hw)
  have HW := hidden (writes_write s A T.data.toList)
  have HB := hidden hB
  clear hB hK0 hT hT2 H0 HB0
  go_wp2_with fail
  refine H1.out.mono ?_
  rintro e w1 ⟨rfl, fo1, hO1, hK1⟩
  have hb1 := HB.out.blk hK1
  have d1' : w1.cell? ⟨w.heap.size, 1, none⟩ = some (.int .i64 A) := by rw [cell_of_row _ _ 1 _ _ _ hb1]; rfl
  have H2' := hidden (H2.out w1 fo1 hK1)
  have HO1 := hidden hO1
  have HK1 := hidden hK1
  clear hb1 hO1 hK1 H1 H2 d1
  go_wp2_with fail
  refine H2'.out.mono ?_
  rintro e w2 ⟨rfl, fr1, hR1, hK2⟩
  have HC := hidden (HB.out.done HO1.out HK1.out hR1 hK2 HW.out)
  clear hR1 hK2 H2' HO1 HK1 HB
  go_wp2
  go_ret
  exact ⟨rfl, HC.out⟩

set_option maxRecDepth 100000 in
set_option maxHeartbeats 1000000 in
theorem act_new_no (w : World) (bo br : Nat) (fp : List Nat) (s : DS) (h : Pair w bo br fp s) (A B C : Int) (S : ByteArray) (hA : A < 48 ∨ 128 < A) :
    Calls Try.prog 7 #[.pointer (some ⟨bo, 0, none⟩), .pointer (some ⟨br, 0, none⟩), .agg #[.int .i64 9, .int .i64 A, .int .i64 B, .int .i64 C, .string S]] w (Does w bo br fp s) := by
  unfold Does
  obtain ⟨fo, fr, rfl, hB⟩ := Base.of h (.cells #[.int .i64 9, .int .i64 A, .int .i64 B, .int .i64 C, .string S] 32)
  have H1 := hidden (onew_no (w.alloc (.cells #[.int .i64 9, .int .i64 A, .int .i64 B, .int .i64 C, .string S] 32)) A hA)
  have H2 := hidden (rnew_no (w.alloc (.cells #[.int .i64 9, .int .i64 A, .int .i64 B, .int .i64 C, .string S] 32)) A hA)
  have HC := hidden hB.same
  clear hB h hA
  go_enter Try.func7, Try.ntmps7
  go_wp2_with fail
  refine H1.out.mono ?_
  rintro e w1 ⟨rfl, rfl⟩
  go_wp2_with fail
  refine H2.out.mono ?_
  rintro e w1 ⟨rfl, rfl⟩
  go_wp2
  go_ret
  exact ⟨rfl, HC.out⟩

set_option maxRecDepth 100000 in
set_option maxHeartbeats 1000000 in
theorem act_new_ok (w : World) (bo br : Nat) (fp : List Nat) (s : DS) (h : Pair w bo br fp s) (A : Nat) (B C : Int) (S : ByteArray) (h1 : 48 ≤ A) (h2 : A ≤ 128) :
    Calls Try.prog 7 #[.pointer (some ⟨bo, 0, none⟩), .pointer (some ⟨br, 0, none⟩), .agg #[.int .i64 9, .int .i64 (A : Int), .int .i64 B, .int .i64 C, .string S]] w (Does w bo br fp s) := by
  unfold Does
  obtain ⟨fo, fr, rfl, hB⟩ := Base.of h (.cells #[.int .i64 9, .int .i64 (A : Int), .int .i64 B, .int .i64 C, .string S] 32)
  have H1 := hidden (onew_ok (w.alloc (.cells #[.int .i64 9, .int .i64 (A : Int), .int .i64 B, .int .i64 C, .string S] 32)) A h1 h2)
  have H2 := hidden (fun w1 => rnew_ok w1 A h1 h2)
  have HB := hidden hB
  clear hB h h1 h2
  go_enter Try.func7, Try.ntmps7
  go_wp2_with fail
  refine H1.out.mono ?_
  rintro e w1 ⟨bo1, fp1, rfl, hO1, hK1⟩
  have hB1 := HB.out.later (hK1.sub (g' := []) (fun _ h => by cases h))
  have d1 : w1.cell? ⟨w.heap.size, 1, none⟩ = some (.int .i64 A) := by rw [cell_of_row _ _ 1 _ _ _ hB1.hb]; rfl
  have HB1 := hidden hB1
  clear hB1 hO1 hK1 H1 HB
  go_wp2_with fail
  refine (H2.out w1).mono ?_
  rintro e w2 ⟨br1, rfl, fp2, hR1, hK2⟩
  have HC := hidden ((HB1.out.later (hK2.sub (g' := []) (fun _ h => by cases h))).same)
  clear hR1 hK2 H2 HB1
  go_wp2
  go_ret
  exact ⟨rfl, HC.out⟩

set_option maxRecDepth 100000 in
set_option maxHeartbeats 1000000 in
theorem act_other (w : World) (bo br : Nat) (fp : List Nat) (s : DS) (h : Pair w bo br fp s) (K A B C : Int) (S : ByteArray) (k1 : (K == 1) = false) (k2 : (K == 2) = false) (k3 : (K == 3) = false) (k4 : (K == 4) = false) (k5 : (K == 5) = false) (k6 : (K == 6) = false) (k7 : (K == 7) = false) (k8 : (K == 8) = false) (k9 : (K == 9) = false) :
    Calls Try.prog 7 #[.pointer (some ⟨bo, 0, none⟩), .pointer (some ⟨br, 0, none⟩), .agg #[.int .i64 K, .int .i64 A, .int .i64 B, .int .i64 C, .string S]] w (Does w bo br fp s) := by
  unfold Does
  obtain ⟨fo, fr, rfl, hB⟩ := Base.of h (.cells #[.int .i64 K, .int .i64 A, .int .i64 B, .int .i64 C, .string S] 32)
  have HC := hidden hB.same
  clear hB h
  go_enter Try.func7, Try.ntmps7
  go_wp2
  go_ret
  exact ⟨rfl, HC.out⟩

end Go.Proofs.YtdpeacdilgcloaaR
