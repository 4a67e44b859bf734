/- The walk of CodecNone. -/
import Derived.Test.YtapcnpocaffeoabSm2
namespace Go.Proofs.Ytapcnpocaffeoab
open Go.RowKit
theorem nil_chg {x : Option Addr} {w w' : World} (h : w = w') : RSt none w' [] true ∧ Chg (RBlk x) w w' := ⟨.inl ⟨rfl, rfl, rfl⟩, h ▸ Chg.refl _ _⟩
theorem fresh_nil (B : Nat) (w : World) : FreshVals B [] (.returned (.slice none 0 0)) w := ⟨none, 0, rfl, .inl rfl, fun h => absurd rfl h⟩
theorem fresh_rows_nil (B : Nat) (w : World) : FreshRows B [] (.returned (.slice none 0 0)) w := ⟨none, 0, rfl, .inl rfl⟩
theorem pst_bad {p : Nat} {s : ByteArray} {v : Value} {w : World} (e : Ending) (w' : World) (h : e = .returned v ∧ PAt w' p s true ∧ Chg (· = p) w w') : e = .returned v ∧ PSt w' p [] true ∧ Chg (· = p) w w' := ⟨h.1, ⟨s, h.2.1, fun h => (by cases h)⟩, h.2.2⟩
theorem none_alike (p : Nat) (k n m : Int) (hn : n ≤ 9223372036854775807) : Alike none p k n m [] true := by
  refine ⟨[], true, Nat.le_refl _, fun _ => ⟨0, fun W _ => ?_, fun W ⟨s, h, _⟩ => (psize_bad p s n W h).mono pst_bad⟩, fun _ => ⟨0, fun W _ => ?_, fun W ⟨s, h, _⟩ => (psigned_bad p s W h).mono pst_bad⟩, fun _ => ⟨⟨#[]⟩, fun W _ => ?_, fun W ⟨s, h, _⟩ => (ptext_bad p s n W h).mono pst_bad⟩, fun _ => ⟨0, 0, ⟨#[]⟩, fun W _ => ?_, fun W ⟨s, h, _⟩ => (pvalue_bad p s W h).mono pst_bad⟩,
    fun _ => ⟨[], Nat.zero_le _, fun W _ => ?_, fun W h => ?_⟩, fun _ => ⟨[], Nat.zero_le _, fun r hr => (List.not_mem_nil hr).elim, fun W _ => ?_, fun W h => ?_⟩⟩
  · exact (rsize_nil n hn W).mono fun e w' h => ⟨h.1, nil_chg h.2⟩
  · exact (rsigned_nil W).mono fun e w' h => ⟨h.1, nil_chg h.2⟩
  · exact (rtext_nil n hn W).mono fun e w' h => ⟨h.1, nil_chg h.2⟩
  · exact (rvalue_nil W).mono fun e w' h => ⟨h.1, .inl ⟨rfl, rfl, rfl⟩, Chg.ofBelow h.2⟩
  · exact (rrow_nil n hn W).mono fun e w' h => ⟨h.1 ▸ fresh_nil _ _, nil_chg h.2⟩
  · exact (prow_bad p h.choose n W h.choose_spec.1).mono fun e w' h => ⟨h.1 ▸ fresh_nil _ _, ⟨_, h.2.1, fun h => (by cases h)⟩, h.2.2⟩
  · exact (rrows_nil n m hn W).mono fun e w' h => ⟨h.1 ▸ fresh_rows_nil _ _, .inl ⟨rfl, rfl, rfl⟩, Chg.ofBelow h.2⟩
  · exact (prows_bad p h.choose n m W h.choose_spec.1).mono fun e w' h => ⟨h.1 ▸ fresh_rows_nil _ _, ⟨_, h.2.1, fun h => (by cases h)⟩, h.2.2⟩
/-- What a law is handed as an Ask. -/
def AskArg (v : Value) (a : Int × Int × Int) : Prop := v = vask a.1 a.2.1 a.2.2 ∧ (-9223372036854775808 ≤ a.1 ∧ a.1 ≤ 9223372036854775807) ∧ (-9223372036854775808 ≤ a.2.1 ∧ a.2.1 ≤ 9223372036854775807) ∧ (-9223372036854775808 ≤ a.2.2 ∧ a.2.2 ≤ 9223372036854775807)
set_option maxRecDepth 100000 in
set_option maxHeartbeats 2000000 in
theorem none_walk (v0 : Value) (x0 : Int × Int × Int) (w : World) (y0 : AskArg v0 x0) : Calls Try.prog 6 #[v0] w fun e w' => e = .returned (.bool true) ∧ Below w.heap.size w w' := by
  obtain ⟨k, n, m⟩ := x0
  obtain ⟨rfl, _, ⟨_, hn⟩, _⟩ := y0
  simp only [] at hn
  obtain ⟨W0, hW0⟩ : ∃ W0, W0 = w.alloc (.cells #[.int .i64 k, .int .i64 n, .int .i64 m] 61) := ⟨_, rfl⟩
  obtain ⟨W1, hW1⟩ : ∃ W1, W1 = W0.alloc (.cells #[.string ⟨#[]⟩, .bool true] 58) := ⟨_, rfl⟩
  have hs0 : W0.heap.size = w.heap.size + 1 := by rw [hW0]; simp
  have hs1 : W1.heap.size = w.heap.size + 2 := by rw [hW1]; simp [hs0]
  have hA1 : Below w.heap.size w W1 := by rw [hW1, hW0]; exact ((Below.refl _ _).alloc (Nat.le_refl _) _).alloc (by simp) _
  have hp1 : W1.heap[W0.heap.size]? = some (.cells #[.string ⟨#[]⟩, .bool true] 58 (0, 0)) := by rw [hW1]; exact Array.getElem?_push_size
  have hst : St none (w.heap.size + 1) W1 [] true := ⟨.inl ⟨rfl, rfl, rfl⟩, ⟨#[]⟩, ⟨by omega, by rw [← hs0]; exact hp1⟩, fun h => by cases h⟩
  have HSM := Lib.hid (same_walk none (w.heap.size + 1) k n m [] true W1 hst (none_alike _ k n m hn))
  have HW0 := Lib.hid hW0.symm
  have HW1 := Lib.hid hW1.symm
  have HB1 := Lib.hid hA1
  have HA := Lib.hid awake4
  unfold vask at HSM ⊢
  clear hA1 hp1 hst hW0 hW1
  go_enter Try.func6, Try.ntmps6
  go_wp2_with fail
  rw [HW0.out, HW1.out]
  refine HSM.out.mono ?_
  rintro e w2 ⟨rfl, _, hC2⟩
  have hb2 : Below w.heap.size w w2 := (HB1.out).trans (hC2.below (by omega) (fun k _ hk => by
    rcases hk with hk | hk
    · cases hk
    · have e : k = w.heap.size + 1 := hk
      omega))
  have HB2 := Lib.hid hb2
  clear hC2 hb2 HSM HW0 HW1 HB1
  go_wp2_with fail
  refine (HA.out _).mono ?_
  rintro e w3 ⟨rfl, hb3⟩
  have hb4 := Below.thenB HB2.out HB2.out.size hb3
  go_wp2
  go_ret
  exact ⟨rfl, hb4⟩
end Go.Proofs.Ytapcnpocaffeoab
