/- The document's disk: what a failing power leaves. Own text. -/
import Derived.Test.YtdpeacdilgcloaaRR2
namespace Go.Proofs.YtdpeacdilgcloaaR
open Go.RowKit

theorem bit_mask (M : Int) (i : Nat) : M % 65536 / 2 ^ (i % 16) % 2 = M / 2 ^ (i % 16) % 2 := by
  have h : i % 16 < 16 := Nat.mod_lt _ (by omega)
  generalize i % 16 = k at *
  have hk : k = 0 ∨ k = 1 ∨ k = 2 ∨ k = 3 ∨ k = 4 ∨ k = 5 ∨ k = 6 ∨ k = 7 ∨ k = 8 ∨ k = 9 ∨ k = 10 ∨ k = 11 ∨ k = 12 ∨ k = 13 ∨ k = 14 ∨ k = 15 := by omega
  rcases hk with rfl | rfl | rfl | rfl | rfl | rfl | rfl | rfl | rfl | rfl | rfl | rfl | rfl | rfl | rfl | rfl <;> omega

theorem lastN_t {i c : Nat} {M t : Int} (h : (i : Int) = t % (c : Int)) (q : Nat) (hq : (q : Int) = min (t / 16) 64) : lastN i c M t = q := by
  unfold lastN
  rw [if_pos h]
  omega
theorem lastN_b {i c : Nat} {M t : Int} (h : ¬ (i : Int) = t % (c : Int)) (h' : M % 65536 / 2 ^ (i % 16) % 2 = 1) : lastN i c M t = 64 := by
  unfold lastN
  rw [bit_mask] at h'
  rw [if_neg h, if_pos (by unfold bitOf; simpa using h')]
theorem lastN_z {i c : Nat} {M t : Int} (h : ¬ (i : Int) = t % (c : Int)) (h' : ¬ M % 65536 / 2 ^ (i % 16) % 2 = 1) : lastN i c M t = 0 := by
  unfold lastN
  rw [bit_mask] at h'
  rw [if_neg h, if_neg (by unfold bitOf; simpa using h')]

theorem lay_zero (a : Nat) (d : List UInt8) (l : List (List UInt8)) (ha : a < l.length) : lay a d 0 l = l := by
  unfold lay
  rw [List.take_zero, List.nil_append, List.drop_zero, List.getD_eq_getElem?_getD, List.getElem?_eq_getElem ha]
  exact List.set_getElem_self ha
theorem lay_whole (a : Nat) (d : List UInt8) (l : List (List UInt8)) (hd : d.length = 64) (hl : ∀ x ∈ l, x.length = 64) (ha : a < l.length) : lay a d 64 l = l.set a d := by
  unfold lay
  rw [List.take_of_length_le (by omega), List.getD_eq_getElem?_getD, List.getElem?_eq_getElem ha]
  simp only [Option.getD_some]
  rw [List.drop_of_length_le (by rw [hl _ (List.getElem_mem ha)]; omega), List.append_nil]

theorem torn_str (d T' : List UInt8) (q : Nat) (D T : ByteArray) (hD : D = ⟨d.toArray⟩) (hT : T = ⟨T'.toArray⟩) (hl : T'.length = 64) : Value.string (D.extract 0 q ++ T.extract q 64) = str (d.take q ++ T'.drop q) := by
  subst hD; subst hT
  unfold str
  congr 1
  apply ByteArray.ext
  apply Array.toList_inj.1
  have : List.take (64 - q) (List.drop q T') = List.drop q T' := List.take_of_length_le (by simp [hl])
  simp [ByteArray.data_append, ByteArray.data_extract, this]

theorem torn_whole (d T' : List UInt8) (D : ByteArray) (hD : D = ⟨d.toArray⟩) (hl : T'.length = 64) : Value.string (D.extract 0 64) = str (d.take 64 ++ T'.drop 64) := by
  subst hD
  unfold str
  congr 1
  apply ByteArray.ext
  apply Array.toList_inj.1
  simp [ByteArray.data_extract, List.drop_of_length_le (show T'.length ≤ 64 by omega)]

theorem bit_test (m : Int) (h : 0 ≤ m) (j : Nat) : (m / 2 ^ j).tmod 2 = m / 2 ^ j % 2 :=
  Int.tmod_eq_emod_of_nonneg (Int.ediv_nonneg h (Int.le_of_lt (Int.pow_pos (by omega))))

theorem rfails_close {w wr : World} {br gl lcap : Nat} {O : Value} {l m0 t0 : Int} {s : DS} (h : RDx w br (.slice (some ⟨gl, 0, none⟩) s.n lcap) O l m0 t0 s) (hgl : gl ≠ br) (M t : Int) (hK : Keeps [gl] [] w wr)
    (hS : wr.ownsRow 0 9 1 (.slice (some ⟨gl, 0, none⟩) s.n lcap) s.n ((failTo s M t s.opn.length).map str)) :
    RDx (((wr.setCell ⟨br, 1, none⟩ (.slice none 0 0)).setCell ⟨br, 2, none⟩ (.bool false)).setCell ⟨br, 3, none⟩ (.bool false)) br (.slice (some ⟨gl, 0, none⟩) s.n lcap) (.slice none 0 0) l m0 t0 (s.fails M t) ∧
    Keeps (br :: ((Value.slice (some ⟨gl, 0, none⟩) s.n lcap).ownBlock.toList ++ O.ownBlock.toList)) (br :: (Value.slice (some ⟨gl, 0, none⟩) s.n lcap).ownBlock.toList) w (((wr.setCell ⟨br, 1, none⟩ (.slice none 0 0)).setCell ⟨br, 2, none⟩ (.bool false)).setCell ⟨br, 3, none⟩ (.bool false)) := by
  have hbr : wr.heap[br]? = _ := (hK.block br (lt_of_block h.hbr) (by simp; exact Ne.symm hgl)).trans h.hbr
  refine ⟨⟨?_, ?_, World.ownsRow_nil _ _ _ _, fun _ _ _ e => (by cases e), Wf.fails h.wf M t, ?_⟩, ?_⟩
  · rw [heap_setCell_same _ _ _ _ _ _ (heap_setCell_same _ _ _ _ _ _ (heap_setCell_same _ _ _ _ _ _ hbr))]
    rfl
  · refine own_of_block hS ?_
    intro x hx
    have : gl = x := by simpa [Value.ownBlock] using hx
    subst this
    rw [heap_setCell_other _ _ _ _ hgl, heap_setCell_other _ _ _ _ hgl, heap_setCell_other _ _ _ _ hgl]
  · simp only [Value.ownBlock, Option.toList, List.append_nil, List.nodup_cons, List.mem_singleton, List.not_mem_nil, not_false_eq_true, true_and]
    exact ⟨Ne.symm hgl, List.nodup_nil⟩
  · have k1 : Keeps (br :: ((Value.slice (some ⟨gl, 0, none⟩) s.n lcap).ownBlock.toList ++ O.ownBlock.toList)) [] w wr := hK.wide (fun k hk => by rw [List.mem_singleton.1 hk]; simp [Value.ownBlock])
    refine Keeps.newer (g := []) (((k1.setCell (.inl (by simp)) _).setCell (.inl (by simp)) _).setCell (.inl (by simp)) _) ?_
    intro k hk
    left
    rcases List.mem_cons.1 hk with rfl | hk
    · simp
    · exact List.mem_cons_of_mem _ (List.mem_append_left _ hk)

theorem rfails_step {wr : World} {gl n lcap : Nat} {e : TypeId} {F : List (List UInt8)} (hS : wr.ownsRow 0 e 1 (.slice (some ⟨gl, 0, none⟩) n lcap) n (F.map str)) (X : Obj) (a : Nat) (v : List UInt8) (V : Value) (hV : V = str v) :
    ((wr.alloc X).setCell ⟨gl, a, none⟩ V).drew.ownsRow 0 e 1 (.slice (some ⟨gl, 0, none⟩) n lcap) n ((F.set a v).map str) := by
  subst hV
  exact own_of_block (own_set (hS.alloc X) a v) (fun _ _ => rfl)

set_option maxRecDepth 100000 in
set_option maxHeartbeats 2000000 in
theorem rfails_any (w : World) (br : Nat) (L O : Value) (l m0 t0 : Int) (s : DS) (h : RDx w br L O l m0 t0 s) (M t : Int) (ht : 0 ≤ t) (ht2 : t ≤ 9223372036854775807) (hw : s.writes ≤ 4000000000000) :
    Calls Try.prog 29 #[.pointer (some ⟨br, 0, none⟩), .int .i64 (M % 65536), .int .i64 t] w fun e w' => e = .returned (.tuple #[]) ∧
      RDx w' br L (.slice none 0 0) l m0 t0 (s.fails M t) ∧ Keeps (br :: (L.ownBlock.toList ++ O.ownBlock.toList)) (br :: L.ownBlock.toList) w w' := by
  have c0 := h.c0
  have c1 := h.c1
  have hn128 := h.wf.n128
  have hcnt := h.wf.cnt
  obtain ⟨gl, lcap, hLe, gl1, gl2, gl3, _⟩ := h.lform
  subst hLe
  obtain ⟨oa, ocap, hOe⟩ := h.oform
  subst hOe
  have hM0 : 0 ≤ M % 65536 := by omega
  have hM1 : M % 65536 < 65536 := by omega
  have Hb := hidden h
  clear h
  generalize hm : M % 65536 = m at *
  have HM := hidden hm
  clear hm
  go_enter Try.func29, Try.ntmps29
  go_wp2
  go_loopw [6, 7, 8] (fun i p n wr => ∃ k : Nat, k ≤ s.opn.length ∧ i = .int .i64 k ∧ Keeps [gl] [] w wr ∧ wr.ownsRow 0 9 1 (.slice (some ⟨gl, 0, none⟩) s.n lcap) s.n ((failTo s M t k).map str)) (fun i _ _ _ => s.opn.length - (intOf i).toNat)
  case atStart => exact ⟨0, Nat.zero_le _, rfl, (Keeps.refl _ _).sub (fun _ h => by cases h), Hb.out.hL⟩
  case round =>
    obtain ⟨k, hk, rfl, hK, hS⟩ := hrel
    have hbr0 : wr.heap[br]? = w.heap[br]? := hK.block br (lt_of_block Hb.out.hbr) (by simp; exact Ne.symm gl1)
    have d1 : wr.cell? ⟨br, 1, none⟩ = some (.slice oa s.opn.length ocap) := (World.cell?_of_block (w := w) hbr0).trans c1
    by_cases hlt : k < s.opn.length
    · obtain ⟨g, rfl, g1, g2⟩ := Hb.out.oblock (by omega)
      have ggl : g ≠ gl := fun e => gl2 (by rw [← e]; rfl)
      have d0 : wr.cell? ⟨br, 0, none⟩ = some (.slice (some ⟨gl, 0, none⟩) s.n lcap) := (World.cell?_of_block (w := w) hbr0).trans c0
      obtain ⟨e1, e2⟩ := own_pairs (own_of_block (w' := wr) Hb.out.hO (fun x hx => by
          have : g = x := by simpa [Value.ownBlock] using hx
          subst this
          exact hK.block g g2 (by simp [ggl]))) k hlt
      have hx := Hb.out.wf.opn _ (List.getElem_mem hlt)
      have hsec := failTo_sec Hb.out.wf M t k (by omega)
      have hsl : (failTo s M t k).length = s.n := by rw [failTo_len, Hb.out.wf.len]
      have hbl : br < wr.heap.size := Nat.lt_of_lt_of_le (lt_of_block Hb.out.hbr) hK.size
      have hgll : gl < wr.heap.size := Nat.lt_of_lt_of_le gl3 hK.size
      have hcell := fun a (ha : a < s.n) => own_strs hS a (by rw [hsl]; exact ha)
      have hfz := fun a => own_fz hS a
      have HS := hidden hS
      have HK := hidden hK
      have HR := hidden (failTo_succ s M t k hlt)
      have HSec := hidden hsec
      generalize s.opn[k] = x at *
      obtain ⟨a, d⟩ := x
      obtain ⟨ha, hd⟩ := hx
      dsimp only at ha hd e1 e2
      have ea := hcell a ha
      have za := hfz a
      have hl64 : ((failTo s M t k)[a]'(by rw [hsl]; exact ha)).length = 64 := hsec _ (List.getElem_mem _)
      obtain ⟨D, hDe⟩ : ∃ D : ByteArray, D = ⟨d.toArray⟩ := ⟨_, rfl⟩
      obtain ⟨T, hTe⟩ : ∃ T : ByteArray, T = ⟨((failTo s M t k)[a]'(by rw [hsl]; exact ha)).toArray⟩ := ⟨_, rfl⟩
      have e2' : wr.cell? ⟨g, k * 2 + 1, none⟩ = some (.string D) := by rw [hDe]; exact e2
      have ea' : wr.cell? ⟨gl, a, none⟩ = some (.string T) := by rw [hTe]; exact ea
      have hDs : D.size = 64 := by rw [hDe]; simpa [ByteArray.size] using hd
      have hTs : T.size = 64 := by rw [hTe]; simpa [ByteArray.size] using hl64
      have HQ := hidden (fun q => torn_str d _ q D T hDe hTe hl64)
      have HQ4 := hidden (torn_whole d _ D hDe hl64)
      have HDe := hidden hDe
      have hgd : (failTo s M t k).getD a [] = (failTo s M t k)[a]'(by rw [hsl]; exact ha) := by rw [List.getD_eq_getElem?_getD, List.getElem?_eq_getElem (by rw [hsl]; exact ha)]; rfl
      rw [← hgd] at HQ HQ4
      clear hgd
      clear hDe hTe e2 ea hl64
      have ha0 : (0 : Int) ≤ (a : Int) := Int.natCast_nonneg _
      have han : (a : Int) < (s.n : Int) := by omega
      clear hS hK hsec hcell hfz c0 c1 hbr0
      by_cases htk : (k : Int) = t % (s.opn.length : Int)
      · have htb : ((k : Int) == t % (s.opn.length : Int)) = true := by simpa using htk
        have HT := hidden htk
        clear htk
        have k0 : (wr.alloc (.cells #[.int .i64 a, .string D] 69)).cell? ⟨br, 0, none⟩ = some (.slice (some ⟨gl, 0, none⟩) s.n lcap) := by rw [World.cell?_alloc_lt _ _ _ hbl]; exact d0
        have k1 : (wr.alloc (.cells #[.int .i64 a, .string D] 69)).cell? ⟨wr.heap.size, 0, none⟩ = some (.int .i64 a) := by rw [cell_of_row _ _ 0 _ _ _ (newB wr _)]; rfl
        have k2 : (wr.alloc (.cells #[.int .i64 a, .string D] 69)).cell? ⟨wr.heap.size, 1, none⟩ = some (.string D) := by rw [cell_of_row _ _ 1 _ _ _ (newB wr _)]; rfl
        have k3 : (wr.alloc (.cells #[.int .i64 a, .string D] 69)).cell? ⟨gl, a, none⟩ = some (.string T) := by rw [World.cell?_alloc_lt _ _ _ hgll]; exact ea'
        have k4 : (wr.alloc (.cells #[.int .i64 a, .string D] 69)).frozen? ⟨gl, a, none⟩ = false := by rw [World.frozen?_alloc_past _ _ _ hgll]; exact za
        obtain ⟨q, hq⟩ : ∃ q : Nat, (q : Int) = min (t / 16) 64 := ⟨(min (t / 16) 64).toNat, by omega⟩
        have HN := hidden (lastN_t (M := M) HT.out q hq)
        have q0 : (0 : Int) ≤ (q : Int) := Int.natCast_nonneg _
        have q1 : (q : Int) ≤ 64 := by omega
        by_cases hq64 : t / 16 ≤ 64
        · have hqe : t / 16 = (q : Int) := by omega
          clear hq hq64
          go_wp2
          generalize wr.heap.size = B at *
          generalize hW : wr.alloc (.cells #[.int .i64 a, .string D] 69) = W at *
          have HW := hidden hW
          clear hW e1 e2' ea' za d0 d1
          go_region
          go_wp2
          go_roundw
          case rel =>
            refine ⟨k + 1, by omega, by go_num, ?_, ?_⟩
            · rw [← HW.out]
              exact ((HK.out.alloc _).setCell (.inl (by simp)) _).drew
            · rw [HR.out, HN.out, ← HW.out]
              exact rfails_step HS.out _ a _ _ (HQ.out q)
          case measure => simp [intOf]; omega
        · have hqe : q = 64 := by omega
          subst hqe
          clear hq
          go_wp2
          generalize wr.heap.size = B at *
          generalize hW : wr.alloc (.cells #[.int .i64 a, .string D] 69) = W at *
          have HW := hidden hW
          clear hW e1 e2' ea' za d0 d1
          go_region
          go_wp2
          go_roundw
          case rel =>
            refine ⟨k + 1, by omega, by go_num, ?_, ?_⟩
            · rw [← HW.out]
              exact ((HK.out.alloc _).setCell (.inl (by simp)) _).drew
            · rw [HR.out, HN.out, ← HW.out]
              exact rfails_step HS.out _ a _ _ HQ4.out
          case measure => simp [intOf]; omega
      · have htb : ((k : Int) == t % (s.opn.length : Int)) = false := by simpa using htk
        have HT := hidden htk
        clear htk
        have k0 : (wr.alloc (.cells #[.int .i64 a, .string D] 69)).cell? ⟨br, 0, none⟩ = some (.slice (some ⟨gl, 0, none⟩) s.n lcap) := by rw [World.cell?_alloc_lt _ _ _ hbl]; exact d0
        have k1 : (wr.alloc (.cells #[.int .i64 a, .string D] 69)).cell? ⟨wr.heap.size, 0, none⟩ = some (.int .i64 a) := by rw [cell_of_row _ _ 0 _ _ _ (newB wr _)]; rfl
        have k2 : (wr.alloc (.cells #[.int .i64 a, .string D] 69)).cell? ⟨wr.heap.size, 1, none⟩ = some (.string D) := by rw [cell_of_row _ _ 1 _ _ _ (newB wr _)]; rfl
        have k3 : (wr.alloc (.cells #[.int .i64 a, .string D] 69)).cell? ⟨gl, a, none⟩ = some (.string T) := by rw [World.cell?_alloc_lt _ _ _ hgll]; exact ea'
        have k4 : (wr.alloc (.cells #[.int .i64 a, .string D] 69)).frozen? ⟨gl, a, none⟩ = false := by rw [World.frozen?_alloc_past _ _ _ hgll]; exact za
        have HBT := hidden (bit_test m hM0 (k % 16))
        by_cases hb : m / 2 ^ (k % 16) % 2 = 1
        · have hbb : ((m / 2 ^ (k % 16)).tmod 2 == 1) = true := by rw [HBT.out]; simpa using hb
          have HN := hidden (lastN_b (M := M) HT.out (by rw [HM.out]; exact hb))
          clear hb
          go_wp2
          generalize hB : wr.heap.size = B at *
          have hBg : B ≠ gl := by omega
          have HB := hidden hB
          clear hB
          generalize hW : wr.alloc (.cells #[.int .i64 a, .string D] 69) = W at *
          have HW := hidden hW
          clear hW e1 e2' ea' za d0 d1
          go_region
          go_wp2
          go_roundw
          case rel =>
            refine ⟨k + 1, by omega, by go_num, ?_, ?_⟩
            · rw [← HW.out]
              exact ((HK.out.alloc _).setCell (.inl (by simp)) _).drew
            · rw [HR.out, HN.out, lay_whole a d _ hd HSec.out (by rw [hsl]; exact ha), ← HW.out]
              exact rfails_step HS.out _ a _ _ (by rw [HDe.out]; rfl)
          case measure => simp [intOf]; omega
        · have hbb : ((m / 2 ^ (k % 16)).tmod 2 == 1) = false := by rw [HBT.out]; simpa using hb
          have HN := hidden (lastN_z (M := M) HT.out (by rw [HM.out]; exact hb))
          clear hb
          go_wp2
          go_roundw
          case rel =>
            refine ⟨k + 1, by omega, by go_num, HK.out.alloc _, ?_⟩
            rw [HR.out, HN.out, lay_zero a d _ (by rw [hsl]; exact ha)]
            exact HS.out.alloc _
          case measure => simp [intOf]; omega
    · have hke : k = s.opn.length := by omega
      subst hke
      have HC := hidden (rfails_close Hb.out gl1 M t hK hS)
      have hbr : wr.heap[br]? = _ := hbr0.trans Hb.out.hbr
      have f2 : wr.cell? ⟨br, 2, none⟩ = some (.bool s.on) := by rw [cell_of_row wr br 2 _ _ _ hbr]; rfl
      have f3 : wr.cell? ⟨br, 3, none⟩ = some (.bool s.fuse.isSome) := by rw [cell_of_row wr br 3 _ _ _ hbr]; rfl
      have fz := fun j => frozen_of_row wr br j _ _ hbr
      clear hK hS hbr hbr0 c0 c1
      go_wp2
      go_end0
      exact ⟨rfl, HC.out⟩

end Go.Proofs.YtdpeacdilgcloaaR
