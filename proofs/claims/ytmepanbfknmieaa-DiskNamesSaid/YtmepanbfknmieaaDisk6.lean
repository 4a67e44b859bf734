/- Contract of disk's Used. -/
import Derived.Test.YtmepanbfknmieaaDisk5
import Derived.Test.YtmepanbfknmieaaDSum
import Derived.WalkKit
namespace Go.Proofs.Ytmepanbfknmieaa
open Go.RowKit Go.Maps Go.ChangeMaps Go.WideMaps
theorem fileR_shape : ∀ v y, fileR v = some y → ∃ c : FRaw, v = fileV c := fun v y h => by
  obtain ⟨f, hf, _⟩ := fileR_inv h
  exact ⟨f, hf⟩
set_option maxRecDepth 100000 in
theorem str_inv {key : Value} {kl : Lit} (h : keyOf Try.prog 9 key = some kl) : ∃ x : ByteArray, key = .string x ∧ kl = .string x.data.toList := by
  unfold keyOf mapKey at h
  rw [Try.underlying9] at h
  cases key <;> simp at h
  exact ⟨_, rfl, h.2.symm⟩
theorem str_shape : ∀ key kl, keyOf Try.prog 9 key = some kl → ∃ x : ByteArray, key = .string x := fun key kl h => by
  obtain ⟨x, hx, _⟩ := str_inv h
  exact ⟨x, hx⟩
set_option maxRecDepth 100000 in
set_option maxHeartbeats 2000000 in
theorem used_some (b m : Nat) (D : Dk) (fs : List FEnt) (w : World) (h : DAt w b D) (hm : D.mb = some m) (hown : w.ownsMap Try.prog 9 fileR m fs.length (toD fs)) (hnd : (fs.map (·.1)).Nodup) (hu : usedF fs ≤ 281474976710656) :
    Calls Try.prog 26 #[.pointer (some ⟨b, 0, none⟩)] w fun e w' => e = .returned (.int .i64 (usedF fs)) ∧ Below w.heap.size w w' := by
  obtain ⟨on, uses, armed, left, room, mb⟩ := D
  simp only at hm
  subst hm
  obtain ⟨⟨c0, c1, c2, c3, c4, c5⟩, _⟩ := six6_cells h
  simp only [] at c0 c1 c2 c3 c4 c5
  have HND := Lib.hid hnd
  clear h hnd
  go_enter Try.func26, Try.ntmps26
  go_wp2_with (first
    | (at_range; refine wpList_range_own _ rfl _ 65 rfl 9 72 str_law Try.underlying65 _ m _ _ rfl hown ?_; intro w0 hrg0 hg0 hs0)
    | fail)
  go_frame
  have hB0 : Below w.heap.size w w0 := (Below.refl _ _).grown hg0 (Nat.le_refl _) (fun k hk => by cases hk)
  have hall : sumDL (Maps.has (toD fs)) fs = usedF fs := sumDL_all fun p hp => by
    rw [toD_has]
    unfold fget
    rw [Option.isSome_map, List.find?_isSome]
    exact ⟨p, hp, by simp⟩
  have HAL := Lib.hid hall
  have HB0 := Lib.hid hB0
  clear hown hg0 hall hB0
  go_loopw [3] (fun av wr => ∃ (left : Lit → Bool) (cnt : Nat) (t : Int), av = .int .i64 t ∧ 0 ≤ t ∧ Hid (t + sumDL left fs = usedF fs) ∧ wr.ranges Try.prog 9 fileR m w.heap.size fs.length (toD fs) left cnt ∧ Below w.heap.size w wr) (fun _ wr => wr.rangeLeft m w.heap.size)
  case atStart => exact ⟨_, _, 0, rfl, Int.le_refl _, Lib.hid (by rw [HAL.out]; omega), hrg0, HB0.out⟩
  case round =>
    obtain ⟨left, cnt, t, rfl, ht0, hsum, hrg, hbel⟩ := hrel
    have HBL := Lib.hid hbel
    clear hbel
    go_wp2_with (first
      | (at_next; refine wpList_next_ranges _ rfl _ rfl 9 str_law fileR Value.string fileV str_shape fileR_shape m w.heap.size fs.length _ _ _ rfl hrg ?_ ?_)
      | go_in)
    · intro _ hl0
      have HE := Lib.hid (show t = usedF fs by have := hsum.out; rw [sumDL_none hl0] at this; omega)
      clear hsum
      go_wp2
      go_ret
      exact ⟨by rw [HE.out]; rfl, HBL.out⟩
    · intro x fa fn fc fk kl yd yp w1 cnt1 hkey hlk hv hat hrg1 hlt hg1 hs1 hen
      obtain ⟨x', hx', hkl⟩ := str_inv hkey
      injection hx' with hx'
      subst hx'
      subst hkl
      have hy := fileR_mk (fa, fn, fc, fk)
      rw [hy] at hv
      injection hv with hv
      injection hv with hv1 hv2
      have hget : fget fs x.data.toList = some (fa, fn, fc, fk) := by
        have h1 := hat .nil
        rw [toD_at', ← hv1] at h1
        cases hg : fget fs x.data.toList with
        | none => rw [hg] at h1; cases h1
        | some g => rw [hg] at h1; injection h1 with h1; rw [h1]
      have hst := sumDL_step HND.out hget hlk
      have hnn := sumDL_nonneg (fun z => left z && !z.sameKey (.string x.data.toList)) fs
      have hs := hsum.out
      simp only [] at hst
      have hw : IntKind.i64.wrap (t + (fn : Int)) = t + (fn : Int) := by simp [IntKind.wrap, IntKind.bits, IntKind.signed]; omega
      have HS := Lib.hid (show (t + (fn : Int)) + sumDL (fun z => left z && !z.sameKey (.string x.data.toList)) fs = usedF fs by omega)
      have ht1 : 0 ≤ t + (fn : Int) := by omega
      have hB1 : Below w.heap.size w w1 := HBL.out.grown hg1 HBL.out.size (fun k hk => by injection hk with hk; omega)
      have HB1 := Lib.hid hB1
      have HRG := Lib.hid hrg1
      have HLT := Lib.hid hlt
      have hrl := hrg.left_eq
      have HRL := Lib.hid hrl
      simp only [fileV] at hen
      clear hrl hst hnn hs hget hat hv1 hv2 hy hlk hkey hsum hrg hrg1 hlt hg1 hs1 hB1
      go_wp2
      go_roundw
      case rel => exact ⟨_, cnt1, t + (fn : Int), rfl, ht1, HS, HRG.out.alloc _, HB1.out.alloc HB1.out.size _⟩
      case measure => rw [(HRG.out.alloc _).left_eq, HRL.out]; exact HLT.out
end Go.Proofs.Ytmepanbfknmieaa
