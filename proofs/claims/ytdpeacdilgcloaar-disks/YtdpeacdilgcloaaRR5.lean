/- The document's disk: Restart, Sync, Write. Own text. -/
import Derived.Test.YtdpeacdilgcloaaRR4
namespace Go.Proofs.YtdpeacdilgcloaaR
open Go.RowKit

theorem rrest_close {w : World} {br : Nat} {L O : Value} {l m t : Int} {s : DS} (h : RDx w br L O l m t s) (hwf : ({ s with on := true, fuse := none, opn := [], claim := wrap64 (s.claim + 1) } : DS).Wf) :
    RDx (((w.setCell ⟨br, 2, none⟩ (.bool true)).setCell ⟨br, 3, none⟩ (.bool false)).setCell ⟨br, 1, none⟩ (.slice none 0 0)) br L (.slice none 0 0) l m t { s with on := true, fuse := none, opn := [], claim := wrap64 (s.claim + 1) } ∧
    Keeps (br :: (L.ownBlock.toList ++ O.ownBlock.toList)) (br :: (L.ownBlock.toList ++ (Value.slice none 0 0).ownBlock.toList)) w (((w.setCell ⟨br, 2, none⟩ (.bool true)).setCell ⟨br, 3, none⟩ (.bool false)).setCell ⟨br, 1, none⟩ (.slice none 0 0)) := by
  have hnd := h.nd
  simp only [List.nodup_cons, List.mem_append, Option.mem_toList, not_or] at hnd
  refine ⟨⟨?_, ?_, World.ownsRow_nil _ _ _ _, fun _ _ _ e => (by cases e), hwf, ?_⟩, ?_⟩
  · rw [heap_setCell_same _ _ _ _ _ _ (heap_setCell_same _ _ _ _ _ _ (heap_setCell_same _ _ _ _ _ _ h.hbr))]
    rfl
  · refine own_of_block h.hL ?_
    intro x hx
    have hne := (h.far x (.inl hx)).1
    rw [heap_setCell_other _ _ _ _ hne, heap_setCell_other _ _ _ _ hne, heap_setCell_other _ _ _ _ hne]
  · show (br :: (L.ownBlock.toList ++ [])).Nodup
    rw [List.append_nil, List.nodup_cons]
    exact ⟨by simpa using hnd.1.1, (List.nodup_append.1 hnd.2).1⟩
  · refine (((((Keeps.refl _ w).setCell (.inl (by simp)) _).setCell (.inl (by simp)) _).setCell (.inl (by simp)) _)).sub ?_
    intro k hk
    rcases List.mem_cons.1 hk with rfl | hk
    · simp
    · refine List.mem_cons_of_mem _ (List.mem_append_left _ ?_)
      rcases List.mem_append.1 hk with hk | hk
      · exact hk
      · cases hk

set_option maxRecDepth 100000 in
set_option maxHeartbeats 1000000 in
theorem rrestart_any (w : World) (br : Nat) (fp : List Nat) (s : DS) (h : RD w br fp s) (hw : s.writes ≤ 4000000000000) :
    Calls Try.prog 9 #[.pointer (some ⟨br, 0, none⟩)] w fun e w' => e = .returned (.tuple #[]) ∧ ∃ fp', RD w' br fp' s.restart ∧ Keeps fp fp' w w' := by
  have hR := h
  obtain ⟨L, O, l, m, t, h, rfl⟩ := h
  have c1 := h.c1
  have c2 := h.c2
  have c3 := h.c3
  have z := h.fz
  have hcnt := h.wf.cnt
  have hwf := Wf.restart h.wf
  obtain ⟨oa, ocap, hOe⟩ := h.oform
  subst hOe
  by_cases hp : s.on = true ∧ 0 < s.opn.length
  · obtain ⟨hon, hpos⟩ := hp
    have e1 : s.restart = { s.fails 0 0 with on := true, claim := wrap64 (s.claim + 1) } := by unfold DS.restart; rw [if_pos hon]
    rw [e1] at hwf ⊢
    rw [hon] at c2
    have hgt : (0 : Int) < (s.opn.length : Int) := by omega
    have Hfc := hidden (rfails_rd w br _ s hR 0 0 (by omega) (by omega) hw)
    rw [show (0 : Int) % 65536 = 0 from rfl] at Hfc
    clear h hR e1
    go_enter Try.func9, Try.ntmps9
    go_wp2_with fail
    refine Hfc.out.mono ?_
    rintro e w' ⟨rfl, fp', hP, hK⟩
    obtain ⟨L', O', l2, m2, t2, hx, rfl⟩ := hP
    have d1 := hx.c1
    have d2 := hx.c2
    have d3 := hx.c3
    have dz := hx.fz
    have HC := hidden (rrest_close hx hwf)
    have HK := hidden hK
    clear hx hK Hfc c1 c2 c3 z hwf
    go_wp2
    go_end0
    exact ⟨rfl, _, ⟨_, _, _, _, _, HC.out.1, rfl⟩, HK.out.trans HC.out.2⟩
  · have e1 : s.restart = { s with on := true, fuse := none, opn := [], claim := wrap64 (s.claim + 1) } := by
      cases hon : s.on with
      | false =>
        unfold DS.restart
        rw [if_neg (by rw [hon]; simp)]
        have ho := h.wf.off hon
        have hf : s.fuse = none := by
          cases hf : s.fuse with
          | none => rfl
          | some x => have := h.wf.fon (by rw [hf]; rfl); rw [hon] at this; cases this
        rw [← ho, ← hf]
      | true =>
        have ho : s.opn = [] := List.eq_nil_of_length_eq_zero (by
          rcases Nat.eq_zero_or_pos s.opn.length with h | h
          · exact h
          · exact absurd ⟨hon, h⟩ hp)
        unfold DS.restart
        rw [if_pos hon]
        unfold DS.fails failTo
        rw [ho]
        rfl
    rw [e1] at hwf ⊢
    have HC := hidden (rrest_close h hwf)
    clear h hR e1 hwf
    cases hon : s.on with
    | false =>
      rw [hon] at c2
      clear hp
      go_enter Try.func9, Try.ntmps9
      go_wp2
      go_end0
      exact ⟨rfl, _, ⟨_, _, _, _, _, HC.out.1, rfl⟩, HC.out.2⟩
    | true =>
      rw [hon] at c2
      have hle : ¬ (0 : Int) < (s.opn.length : Int) := by intro h; exact hp ⟨hon, by omega⟩
      clear hp
      go_enter Try.func9, Try.ntmps9
      go_wp2
      go_end0
      exact ⟨rfl, _, ⟨_, _, _, _, _, HC.out.1, rfl⟩, HC.out.2⟩

theorem rsync_close {w wr : World} {br gl lcap : Nat} {O : Value} {l m t : Int} {s : DS} (h : RDx w br (.slice (some ⟨gl, 0, none⟩) s.n lcap) O l m t s) (hgl : gl ≠ br) (hK : Keeps [gl] [] w wr)
    (hS : wr.ownsRow 0 9 1 (.slice (some ⟨gl, 0, none⟩) s.n lcap) s.n ((syncTo s s.opn.length).map str)) :
    RDx (wr.setCell ⟨br, 1, none⟩ (.slice none 0 0)) br (.slice (some ⟨gl, 0, none⟩) s.n lcap) (.slice none 0 0) l m t s.synced ∧
    Keeps (br :: ((Value.slice (some ⟨gl, 0, none⟩) s.n lcap).ownBlock.toList ++ O.ownBlock.toList)) (br :: ((Value.slice (some ⟨gl, 0, none⟩) s.n lcap).ownBlock.toList ++ (Value.slice none 0 0).ownBlock.toList)) w (wr.setCell ⟨br, 1, none⟩ (.slice none 0 0)) := by
  have hbr : wr.heap[br]? = _ := (hK.block br (lt_of_block h.hbr) (by simp; exact Ne.symm hgl)).trans h.hbr
  refine ⟨⟨?_, ?_, World.ownsRow_nil _ _ _ _, h.hf, Wf.synced h.wf, ?_⟩, ?_⟩
  · rw [heap_setCell_same _ _ _ _ _ _ hbr]
    rfl
  · refine own_of_block hS ?_
    intro x hx
    have : gl = x := by simpa [Value.ownBlock] using hx
    subst this
    rw [heap_setCell_other _ _ _ _ hgl]
  · show (br :: [gl]).Nodup
    simp only [List.nodup_cons, List.mem_singleton, List.not_mem_nil, not_false_eq_true, true_and]
    exact ⟨Ne.symm hgl, List.nodup_nil⟩
  · have k1 : Keeps (br :: ((Value.slice (some ⟨gl, 0, none⟩) s.n lcap).ownBlock.toList ++ O.ownBlock.toList)) [] w wr := hK.wide (fun k hk => by rw [List.mem_singleton.1 hk]; simp [Value.ownBlock])
    refine Keeps.newer (g := []) (k1.setCell (.inl (by simp)) _) ?_
    intro k hk
    left
    rcases List.mem_cons.1 hk with rfl | hk
    · simp
    · refine List.mem_cons_of_mem _ (List.mem_append_left _ ?_)
      rcases List.mem_append.1 hk with hk | hk
      · exact hk
      · cases hk

set_option maxRecDepth 100000 in
set_option maxHeartbeats 1000000 in
theorem rsync_any (w : World) (br : Nat) (fp : List Nat) (s : DS) (h : RD w br fp s) (hw : s.writes ≤ 4000000000000) :
    Calls Try.prog 20 #[.pointer (some ⟨br, 0, none⟩)] w fun e w' => e = .returned (.int .i64 s.sync.2) ∧ ∃ fp', RD w' br fp' s.sync.1 ∧ Keeps fp fp' w w' := by
  have Hsp := hidden (rdeed_any w br fp s h hw)
  have hw1 : s.spend.1.writes ≤ 4000000000000 := by rw [spend_writes]; exact hw
  unfold DS.sync
  clear h
  generalize s.spend = r at *
  obtain ⟨s1, b⟩ := r
  dsimp only at hw1 Hsp ⊢
  cases b with
  | false =>
    rw [if_neg (by simp)]
    go_enter Try.func20, Try.ntmps20
    go_wp2_with fail
    refine Hsp.out.mono ?_
    rintro e w1 ⟨rfl, fp', hP, hK⟩
    clear Hsp
    go_wp2
    go_ret
    exact ⟨rfl, fp', hP, hK⟩
  | true =>
    rw [if_pos rfl]
    go_enter Try.func20, Try.ntmps20
    go_wp2_with fail
    refine Hsp.out.mono ?_
    rintro e w1 ⟨rfl, fp', hP, hK0⟩
    clear Hsp
    obtain ⟨L, O, l, m, t, hP, rfl⟩ := hP
    have HK0 := hidden hK0
    have c1 := hP.c1
    have hn128 := hP.wf.n128
    have hcnt := hP.wf.cnt
    obtain ⟨gl, lcap, hLe, gl1, gl2, gl3, _⟩ := hP.lform
    subst hLe
    obtain ⟨oa, ocap, hOe⟩ := hP.oform
    subst hOe
    have Hb := hidden hP
    clear hP hK0
    go_wp2
    go_loopw [4] (fun i wr => ∃ k : Nat, k ≤ s1.opn.length ∧ i = .int .i64 k ∧ Keeps [gl] [] w1 wr ∧ wr.ownsRow 0 9 1 (.slice (some ⟨gl, 0, none⟩) s1.n lcap) s1.n ((syncTo s1 k).map str)) (fun i _ => s1.opn.length - (intOf i).toNat)
    case atStart => exact ⟨0, Nat.zero_le _, rfl, (Keeps.refl _ _).sub (fun _ h => by cases h), Hb.out.hL⟩
    case round =>
      obtain ⟨k, hk, rfl, hK, hS⟩ := hrel
      have hbr0 : wr.heap[br]? = w1.heap[br]? := hK.block br (lt_of_block Hb.out.hbr) (by simp; exact Ne.symm gl1)
      have d1 : wr.cell? ⟨br, 1, none⟩ = some (.slice oa s1.opn.length ocap) := (World.cell?_of_block (w := w1) hbr0).trans c1
      by_cases hlt : k < s1.opn.length
      · obtain ⟨g, rfl, g1, g2⟩ := Hb.out.oblock (by omega)
        have ggl : g ≠ gl := fun e => gl2 (by rw [← e]; rfl)
        have d0 : wr.cell? ⟨br, 0, none⟩ = some (.slice (some ⟨gl, 0, none⟩) s1.n lcap) := (World.cell?_of_block (w := w1) hbr0).trans Hb.out.c0
        obtain ⟨e1, e2⟩ := own_pairs (own_of_block (w' := wr) Hb.out.hO (fun x hx => by
            have : g = x := by simpa [Value.ownBlock] using hx
            subst this
            exact hK.block g g2 (by simp [ggl]))) k hlt
        have hx := Hb.out.wf.opn _ (List.getElem_mem hlt)
        have hsl : (syncTo s1 k).length = s1.n := by rw [syncTo_len, Hb.out.wf.len]
        have hcell := fun a (ha : a < s1.n) => own_strs hS a (by rw [hsl]; exact ha)
        have hfz := fun a => own_fz hS a
        have HS := hidden hS
        have HK := hidden hK
        have HR := hidden (syncTo_succ s1 k hlt)
        generalize s1.opn[k] = x at *
        obtain ⟨a, d⟩ := x
        obtain ⟨ha, hd⟩ := hx
        dsimp only at ha hd e1 e2
        have ea : ∃ v, wr.cell? ⟨gl, a, none⟩ = some v := ⟨_, hcell a ha⟩
        obtain ⟨va, ea⟩ := ea
        have za := hfz a
        obtain ⟨D, hDe⟩ : ∃ D : ByteArray, D = ⟨d.toArray⟩ := ⟨_, rfl⟩
        have e2' : wr.cell? ⟨g, k * 2 + 1, none⟩ = some (.string D) := by rw [hDe]; exact e2
        have HDe := hidden hDe
        have ha0 : (0 : Int) ≤ (a : Int) := Int.natCast_nonneg _
        have han : (a : Int) < (s1.n : Int) := by omega
        have hk0 : (0 : Int) ≤ (k : Int) := Int.natCast_nonneg _
        have hkn : (k : Int) < (s1.opn.length : Int) := by omega
        clear hS hK hcell hfz c1 hbr0 hDe e2 hsl
        go_wp2
        go_region_held3 (fun w' => w'.cell? ⟨br, 0, none⟩ = some (.slice (some ⟨gl, 0, none⟩) s1.n lcap) ∧ w'.cell? ⟨br, 1, none⟩ = some (.slice (some ⟨g, 0, none⟩) s1.opn.length ocap) ∧ w'.cell? ⟨g, k * 2, none⟩ = some (.int .i64 a) ∧ w'.cell? ⟨g, k * 2 + 1, none⟩ = some (.string D)) ((go_split_ands; (simp only [World.cell?_drew] at *); refine ⟨?_, ?_, ?_, ?_⟩ <;> first | assumption | (rw [World.cell?_drew]; assumption) | (rw [World.cell?_setCell_other _ _ _ _ (by intro e; injection e with e; first | exact gl1 e | exact ggl e.symm)]; (try rw [World.cell?_drew]); assumption) | (rw [World.cell?_drew, World.cell?_setCell_other _ _ _ _ (by intro e; injection e with e; first | exact gl1 e | exact ggl e.symm)]; assumption))) (fail)
        go_wp2
        go_roundw
        case rel =>
          refine ⟨k + 1, by omega, by go_num, ?_, ?_⟩
          · exact (HK.out.setCell (.inl (by simp)) _).drew
          · rw [HR.out]
            refine own_of_block (w := wr.setCell ⟨gl, a, none⟩ (str d)) (own_set HS.out a d) ?_
            intro x hx
            rw [HDe.out]
            rfl
        case measure => simp [intOf]; omega
      · have hke : k = s1.opn.length := by omega
        subst hke
        have HC := hidden (rsync_close Hb.out gl1 hK hS)
        have hbr : wr.heap[br]? = _ := hbr0.trans Hb.out.hbr
        have fz := frozen_of_row wr br 1 _ _ hbr
        clear hK hS hbr hbr0 c1
        go_wp2
        go_ret
        exact ⟨rfl, _, ⟨_, _, _, _, _, HC.out.1, rfl⟩, HK0.out.trans HC.out.2⟩

end Go.Proofs.YtdpeacdilgcloaaR
