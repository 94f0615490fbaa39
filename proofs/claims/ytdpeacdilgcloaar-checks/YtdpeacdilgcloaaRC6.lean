/- PROVED HERE: whatever list of scripts it is given, the statement Checks returns true (the program's Check answers each script as the document's does; the counter is right, a cut off instruction is not), and its argument reads as it did. Condition: the list and its strings together hold at most 1048576 values and letters (the second, narrower form: ChecksUptoSaid). Own text. -/
import Derived.Test.YtdpeacdilgcloaaRC5
import Derived.Test.YtdpeacdilgcloaaRRow0
namespace Go.Proofs.YtdpeacdilgcloaaR
open Go.ChangeShapes Go.WideShapes Go.ChangeAt Go.RowKit

set_option maxRecDepth 100000 in
theorem checks_contract (H : Type) (enc : TypeId × Value → H) (W : World) (base : Nat) (args : Array Value) (ds gs : List (DataW H)) (before : List MemPlace)
    (hval : ∀ (j : Nat) t v, Try.f4.params[j]? = some t → args[j]? = some v → Value.okWide Try.prog W .any base t v)
    (hW : DataW.Whole enc Try.prog Try.f4.params.toList Rows.checksSpec.vars false W args.toList ds gs before) (hk : Rows.uptoSmall H (ds ++ gs) = true) :
    Calls Try.prog 4 args W fun e W' => ∃ v, e = .returned v ∧ Rows.checksSpec.post enc Try.prog Try.f4 false true false false W args v W' := by
  have hW' := hW
  obtain ⟨p, q, hA0, hV, rfl, hfz, hnd⟩ := hW
  have hA : DataW.TrodAll enc Try.prog W 0 (fun _ => true) true Try.f4.params.toList args.toList ds p := hA0
  rw [Try.params4] at hA hval
  obtain ⟨v1, vs1, d1, ds1, p1, q1, hargs, rfl, rfl, h1, r1⟩ := trodAll_cons hA
  obtain ⟨rfl, rfl, rfl⟩ := trodAll_nil r1
  obtain rfl : args = #[v1] := by cases args; simp_all
  obtain ⟨rfl, rfl⟩ := trodVars_none hV
  obtain ⟨sa, len, cap, rfl⟩ := okWide_slice Try.underlying34 (hval 0 34 v1 rfl rfl)
  have k1 := h1
  have lt1 : ∀ x ∈ p1, x.block < W.heap.size := by obtain ⟨m, hm⟩ := k1; exact DataW.trod_lt m _ _ _ hm
  have hs : len < 1000000000000 ∧ (0 < len → ∃ b off, sa = some ⟨b, off, none⟩ ∧ b < W.heap.size ∧ ∀ i, i < len → ∃ S : ByteArray, W.cell? ⟨b, off + i, none⟩ = some (.string S) ∧ S.size ≤ 1000000000000) := by
    obtain ⟨fuel, hf⟩ := h1
    rcases Go.Deep.open_slice Try.underlying34 hf with ⟨hcs, _⟩ | ⟨a, l, c, m, nn, D, Pl, hcs, _, hl, hm, hmm, hx, hel⟩
    · simp [Value.cells] at hcs
      obtain ⟨rfl, rfl, rfl⟩ := hcs
      exact ⟨by omega, fun h => absurd h (by omega)⟩
    · simp [Value.cells] at hcs
      obtain ⟨rfl, rfl, rfl⟩ := hcs
      have hml : m = cap := by simpa using hmm
      subst hml
      have hb : Rows.uptoBulkAll ([d1] ++ []) ≤ 1048576 := of_decide_eq_true hk
      simp only [Prod.mk.injEq] at hx
      rw [hx.1] at hb
      simp only [List.append_nil, Rows.uptoBulkAll, Rows.uptoBulk] at hb
      refine ⟨?_, fun hpos => ?_⟩
      · have := bulk_len ((List.range len).map D)
        rw [List.length_map, List.length_range] at this
        omega
      · rw [Try.cells_string] at hel
        obtain ⟨b, off, spot⟩ := a
        have hone : ∀ i, i < len → ∃ v, W.cell? ((⟨b, off, spot⟩ : Addr).add i) = some v := by
          intro i hi
          obtain ⟨cs, hc, _⟩ := hel i (by omega)
          obtain ⟨_, hlen, hcell⟩ := World.cells?_some hc
          have := hcell 0 (by omega)
          rw [List.getElem?_eq_getElem (by omega)] at this
          exact ⟨_, by simpa [Addr.add] using this⟩
        have hsp : spot = none := by
          obtain ⟨v, hv⟩ := hone 0 hpos
          simpa [Addr.add] using World.cell?_spot hv
        subst hsp
        refine ⟨b, off, rfl, ?_, ?_⟩
        · obtain ⟨v, hv⟩ := hone 0 hpos
          exact World.block_lt_of_cell? W _ (by simpa [Addr.add] using hv)
        · intro i hi
          obtain ⟨cs, hc, ht⟩ := hel i (by omega)
          obtain ⟨_, hlen, hcell⟩ := World.cells?_some hc
          match cs, hlen with
          | [v], _ =>
            have hc0 := hcell 0 (by omega)
            obtain ⟨S, e4, e5, _⟩ := DataW.trod_string Try.underlying9 ht
            simp only [List.cons.injEq, and_true] at e4
            subst e4
            rw [Addr.add_mid, Nat.mul_one, Addr.add_mid] at hc0
            refine ⟨S, hc0, ?_⟩
            have hm := bulk_mem (List.mem_map.mpr ⟨i, List.mem_range.mpr hi, rfl⟩ : D i ∈ (List.range len).map D)
            have hD : Rows.uptoBulk (D i) = S.size + 1 := by
              simp only [Prod.mk.injEq] at e5
              rw [e5.1]
              simp [Rows.uptoBulk]
            omega
  refine (checks_walk W sa len cap hs.1 hs.2).mono fun e W' ⟨he, hk⟩ => ?_
  subst he
  have bel := hk.below
  exact ⟨_, rfl, _, _, _, [], _, [], hW', trodAll_mk1 (shut_bool Try.underlying4 _), (trodAll_cons_mk (Below.trod laid_out (by kernel_rfl) (of_decide_eq_true (by kernel_rfl)) k1 bel lt1) trodAll_mk0), rfl, bel.frame _, fun h => by cases h⟩

set_option maxRecDepth 100000 in
theorem checks_lifted (os : Os) (started : os.Started) (H : Type) (enc : TypeId × Value → H) (F : Stop.Interp) :
    ReturnsInHanded {} Try.checked os 4 .any ((Rows.OpenSpec.upto Rows.checksSpec).pre6 enc Try.prog Try.f4 Rows.checksUptoRow.domain false) (((Rows.OpenSpec.upto Rows.checksSpec).at F).post enc Try.prog Try.f4 false true false false) := by
  refine returnsInHanded_of_cond (C := Try.checked) (s := Rows.OpenSpec.upto Rows.checksSpec) (k := Rows.uptoSmall) rfl own_knob started (by kernel_rfl) Try.func4
    (OpenSpec.witness (enc := enc) (C := Try.checked) (s := Rows.OpenSpec.upto Rows.checksSpec) (k := Rows.uptoSmall) rfl false ⟨#[], #[.slice none 0 0], []⟩ 8 (by kernel_rfl) (by kernel_rfl) (by kernel_rfl)
      (x := ([.nil], [], [])) (by kernel_rfl) rfl (by kernel_rfl)) ?_
  intro W base args ds gs before hval hW _ hk _
  exact checks_contract H enc W base args ds gs before hval hW hk

/-- THE STATEMENT -/
theorem checks_upto : Rows.ChecksUptoSaid :=
  OpenClaim.holds_of_cond 4 Try.f4 rfl rfl rfl rfl rfl rfl rfl ⟨rfl, rfl, rfl, rfl, rfl⟩ rfl rfl rfl rfl rfl (by kernel_rfl) Try.func4 (by kernel_rfl)
    (of_decide_eq_true (by kernel_rfl)) (by unfold Func.isWrapper; first | (rw [if_pos (by decide +kernel)]; kernel_rfl) | (rw [if_neg (by decide +kernel)]; exact ⟨rfl, rfl⟩))
    (fun os started H enc _ F => checks_lifted os started H enc F)

#print axioms checks_upto

end Go.Proofs.YtdpeacdilgcloaaR
