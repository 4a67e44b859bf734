/- Contracts of Spread. -/
import Derived.Test.YtapnkbamilkpoaaRV
import Derived.Test.YtapnkbamilkpoaaKey2
import Derived.Test.YtapnkbamilkpoaaCalcD
import Derived.Lib.ConvBytes
import Derived.Lib.Strings
import Derived.Lib.AtoiErrMem
namespace Go.Proofs.Ytapnkbamilkpoaa
open Go.RowKit
/-- The sum of a text's bytes, each times its place. -/
def wstep (p : Int × Int) (c : UInt8) : Int × Int := (p.1 + p.2 * (c.toNat : Int), p.2 + 1)
def wsum (l : List UInt8) : Int := (l.foldl wstep (0, 1)).1
theorem wplace (l : List UInt8) : (l.foldl wstep (0, 1)).2 = l.length + 1 := by
  have : ∀ (l : List UInt8) (p : Int × Int), (l.foldl wstep p).2 = p.2 + l.length := by
    intro l
    induction l with
    | nil => intro p; simp
    | cons c r ih => intro p; rw [List.foldl_cons, ih, List.length_cons]; simp [wstep]; omega
  rw [this]; simp; omega
theorem wsum_snoc (l : List UInt8) (c : UInt8) : wsum (l ++ [c]) = wsum l + ((l.length : Int) + 1) * (c.toNat : Int) := by
  unfold wsum
  rw [List.foldl_append, List.foldl_cons, List.foldl_nil]
  simp only [wstep]
  rw [wplace]
theorem wsum_nonneg (l : List UInt8) : 0 ≤ wsum l := by
  have : ∀ (l : List UInt8) (p : Int × Int), 0 ≤ p.1 → 0 ≤ p.2 → 0 ≤ (l.foldl wstep p).1 := by
    intro l
    induction l with
    | nil => intro p h _; exact h
    | cons c r ih =>
      intro p h h'
      rw [List.foldl_cons]
      exact ih _ (by simp only [wstep]; have := Int.mul_nonneg h' (Int.natCast_nonneg c.toNat); omega) (by simp only [wstep]; omega)
  exact this l _ (by decide) (by decide)
def vsum (v : Val) : Int := if v.1 = 2 then wsum v.2.2.data.toList else v.2.1
theorem wrap_u64_id {x : Int} (h0 : 0 ≤ x) (h1 : x < 18446744073709551616) : IntKind.u64.wrap x = x := by rw [IntKind.wrap_u64]; omega
set_option maxRecDepth 100000 in
set_option maxHeartbeats 1000000 in
theorem spread_text (s : ByteArray) (hs : s.size ≤ 200) (n : Nat) (hn0 : 1 ≤ n) (hn1 : n ≤ 1000000) (w : World) :
    Calls Try.prog 67 #[.string s, .int .u64 (n : Int)] w fun e w' => e = .returned (.int .i64 (wsum s.data.toList % (n : Int))) ∧ Below w.heap.size w w' := by
  have hcv := Lib.run_convert_string_bytes (P := Try.prog) w 9 91 5 s (u := .string) Try.underlying9 Try.underlying91 Try.underlying5
  obtain ⟨W1, hW1⟩ : ∃ W1, W1 = Lib.bytesWorld w 5 s := ⟨_, rfl⟩
  have hB : ∀ j, j < s.size → W1.cell? ⟨w.heap.size, j, none⟩ = some (.int .u8 (s.data.toList.getD j 0).toNat) := fun j hj => by rw [hW1]; exact Lib.bytesWorld_cell w 5 s j hj
  have hbw : Below w.heap.size w W1 := by rw [hW1]; exact Lib.bytesWorld_below w 5 s
  rw [← hW1] at hcv
  have hsl : s.data.toList.length = s.size := by rw [Lib.size_eq]
  have HB := Lib.hid (And.intro hB hsl)
  clear hB hW1 hsl
  go_enter Try.func67, Try.ntmps67
  go_wp2
  clear hcv
  go_loopw [5, 11] (fun x i wr => ∃ k : Nat, k ≤ s.size ∧ i = .int .i64 (k : Int) ∧ x = .int .u64 (wsum (s.data.toList.take k) % (n : Int)) ∧ wr = W1) (fun _ i _ => s.size - (intOf i).toNat)
  case atStart => exact ⟨0, Nat.zero_le _, rfl, by simp [wsum], rfl⟩
  case round =>
    obtain ⟨k, hk, rfl, rfl, rfl⟩ := hrel
    have hm0 := Int.emod_nonneg (wsum (s.data.toList.take k)) (b := (n : Int)) (by omega)
    have hm1 := Int.emod_lt_of_pos (wsum (s.data.toList.take k)) (b := (n : Int)) (by omega)
    by_cases hlt : k < s.size
    · have hlt' : decide ((k : Int) < (s.size : Int)) = true := decide_eq_true (by omega)
      have hc := HB.out.1 k hlt
      have hts : s.data.toList.take (k + 1) = s.data.toList.take k ++ [s.data.toList.getD k 0] := by
        rw [List.take_succ_eq_append_getElem (by rw [HB.out.2]; exact hlt), List.getD_eq_getElem?_getD, List.getElem?_eq_getElem (by rw [HB.out.2]; exact hlt)]; rfl
      have hll : (s.data.toList.take k).length = k := by rw [List.length_take, HB.out.2]; omega
      have hws := wsum_snoc (s.data.toList.take k) (s.data.toList.getD k 0)
      rw [← hts, hll] at hws
      generalize s.data.toList.getD k 0 = c at hc hws
      have hc256 : (c.toNat : Int) < 256 := by have := c.toNat_lt; omega
      have hc0 : (0 : Int) ≤ (c.toNat : Int) := by omega
      obtain ⟨M, hM⟩ : ∃ M, M = wsum (s.data.toList.take k) % (n : Int) := ⟨_, rfl⟩
      rw [← hM] at hm0 hm1 ⊢
      obtain ⟨C, hC⟩ : ∃ C : Int, C = (c.toNat : Int) := ⟨_, rfl⟩
      rw [← hC] at hc hc256 hc0 hws
      have hp0 : 0 ≤ C * ((k : Int) + 1) := Int.mul_nonneg hc0 (by omega)
      have hp1 : C * ((k : Int) + 1) ≤ 255 * 201 := Int.mul_le_mul (by omega) (by omega) (by omega) (by omega)
      have hfin : (M + C * ((k : Int) + 1)) % (n : Int) = wsum (s.data.toList.take (k + 1)) % (n : Int) := by
        rw [hM, hws, Int.mul_comm C]; simp
      have hfb0 := Int.emod_nonneg (wsum (s.data.toList.take (k + 1))) (b := (n : Int)) (by omega)
      have hfb1 := Int.emod_lt_of_pos (wsum (s.data.toList.take (k + 1))) (b := (n : Int)) (by omega)
      have HF := Lib.hid hfin
      clear hts hll hws hM hC hfin
      generalize hpp : C * ((k : Int) + 1) = P at *
      go_wp2
      go_roundw
      case rel => exact ⟨k + 1, by omega, by go_num, by rw [HF.out], trivial⟩
      case measure => simp [intOf]; omega
    · have hlt' : decide ((k : Int) < (s.size : Int)) = false := decide_eq_false (by omega)
      have e : s.data.toList.take k = s.data.toList := List.take_of_length_le (by rw [HB.out.2]; omega)
      rw [e] at hm0 hm1 ⊢
      clear e
      go_wp2
      go_ret
      exact ⟨rfl, hbw⟩
set_option maxHeartbeats 1000000 in
theorem spread_num (k : Int) (hk : k = 1 ∨ k = 3) (m : Int) (s : ByteArray) (n : Nat) (hn0 : 1 ≤ n) (hn1 : n ≤ 1000000) (w : World) :
    Calls Try.prog 48 #[.agg #[.int .i64 k, .int .i64 m, .string s], .int .i64 (n : Int)] w fun e w' => e = .returned (.int .i64 (m % (n : Int))) ∧ Below w.heap.size w w' := by
  have hlt : decide ((n : Int) < 1) = false := decide_eq_false (by omega)
  have hm : modN m (n : Int) = m % (n : Int) := by
    unfold modN
    rw [if_neg (by omega), Int.fmod_eq_emod_of_nonneg _ (by omega)]
  have HM := Lib.hid hm
  clear hm
  rcases hk with rfl | rfl
  all_goals
    go_enter Try.func48, Try.ntmps48
    go_wp2_with fail
    refine (mod_any m (n : Int) (by omega) (by omega) _).mono ?_
    rintro e w1 ⟨rfl, rfl⟩
    rw [HM.out]
    go_wp2
    go_ret
    exact ⟨rfl, (Below.refl _ _).alloc (Nat.le_refl _) _⟩
set_option maxHeartbeats 1000000 in
theorem spread_txt (m : Int) (s : ByteArray) (hs : s.size ≤ 200) (n : Nat) (hn0 : 1 ≤ n) (hn1 : n ≤ 1000000) (w : World) :
    Calls Try.prog 48 #[.agg #[.int .i64 2, .int .i64 m, .string s], .int .i64 (n : Int)] w fun e w' => e = .returned (.int .i64 (wsum s.data.toList % (n : Int))) ∧ Below w.heap.size w w' := by
  have hlt : decide ((n : Int) < 1) = false := decide_eq_false (by omega)
  go_enter Try.func48, Try.ntmps48
  go_wp2_with fail
  refine (spread_text s hs n hn0 hn1 _).mono ?_
  rintro e w1 ⟨rfl, hb1⟩
  go_wp2
  go_ret
  exact ⟨rfl, Below.thenB ((Below.refl _ _).alloc (Nat.le_refl _) _) (by simp) hb1⟩
set_option maxHeartbeats 1000000 in
theorem spread_none (v : Val) (n : Int) (hn : n < 1) (w : World) :
    Calls Try.prog 48 #[vagg v, .int .i64 n] w fun e w' => e = .returned (.int .i64 0) ∧ Below w.heap.size w w' := by
  have hlt : decide (n < 1) = true := decide_eq_true hn
  clear hn
  unfold vagg
  go_enter Try.func48, Try.ntmps48
  go_wp2
  go_ret
  exact ⟨rfl, (Below.refl _ _).alloc (Nat.le_refl _) _⟩
theorem spread_any (v : Val) (hv : vright v = true) (n : Nat) (hn0 : 1 ≤ n) (hn1 : n ≤ 1000000) (w : World) :
    Calls Try.prog 48 #[vagg v, .int .i64 (n : Int)] w fun e w' => e = .returned (.int .i64 (vsum v % (n : Int))) ∧ Below w.heap.size w w' := by
  obtain ⟨k, m, s⟩ := v
  rcases right_kinds hv with ⟨h, h'⟩ | ⟨h, h', h''⟩ | ⟨h, h', h''⟩
  · simp only [] at h; subst h; exact spread_num 1 (.inl rfl) m s n hn0 hn1 w
  · simp only [] at h h''; subst h; exact spread_txt m s h'' n hn0 hn1 w
  · simp only [] at h; subst h; exact spread_num 3 (.inr rfl) m s n hn0 hn1 w
end Go.Proofs.Ytapnkbamilkpoaa
