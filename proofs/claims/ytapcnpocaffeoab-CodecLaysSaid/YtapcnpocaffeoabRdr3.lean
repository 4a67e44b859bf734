/- Contracts of codec's readers: value, Value. -/
import Derived.Test.YtapcnpocaffeoabRdr2
import Derived.Test.YtapcnpocaffeoabWrT
namespace Go.Proofs.Ytapcnpocaffeoab
open Go.RowKit
theorem RAt.far3 {w : World} {b B : Nat} {l : List UInt8} {bad : Bool} {x y : Int} {z : ByteArray} {T : Nat} (h : RAt w b l bad) (hB : w.heap[B]? = some (.cells #[.int .i64 x, .int .i64 y, .string z] T (0, 0))) (hne : B ≠ b) (u v q : Value) :
    RAt (((w.setCell ⟨B, 0, none⟩ u).setCell ⟨B, 1, none⟩ v).setCell ⟨B, 2, none⟩ q) b l bad := by
  obtain ⟨h0, h1, h2, a, c, h3, h4, h5⟩ := h
  have hblk : ∀ k, k ≠ B → (((w.setCell ⟨B, 0, none⟩ u).setCell ⟨B, 1, none⟩ v).setCell ⟨B, 2, none⟩ q).heap[k]? = w.heap[k]? := fun k hk => by
    rw [Below.heap_setCell _ _ _ _ hk, Below.heap_setCell _ _ _ _ hk, Below.heap_setCell _ _ _ _ hk]
  refine ⟨by simpa using h0, h1, h2, a, c, (hblk b (Ne.symm hne)).trans h3, h4, ?_⟩
  rcases h5 with h | ⟨k, o, hk, hkb, hks, hj⟩
  · exact .inl h
  · by_cases hl : l = []
    · exact .inl hl
    · have hkB : k ≠ B := by
        rintro rfl
        obtain ⟨c0, t, rfl⟩ : ∃ c0 t, l = c0 :: t := by cases l with | nil => exact absurd rfl hl | cons c0 t => exact ⟨c0, t, rfl⟩
        have := hj 0 c0 rfl
        rw [Lib.cell_of_heap hB (o + 0)] at this
        rcases o with _ | _ | _ | o <;> simp at this
      exact .inr ⟨k, o, hk, hkb, ⟨by simpa using hks.1, hks.2.imp fun cs h => h.imp fun cl h => (hblk k hkB).trans h⟩, fun j u hu => (World.cell?_of_block (hblk k hkB)).trans (hj j u hu)⟩
theorem Chg.set3 {w0 w : World} {b B : Nat} (h : Chg (· = b) w0 w) (hB : w0.heap.size ≤ B) (u v q : Value) : Chg (· = b) w0 (((w.setCell ⟨B, 0, none⟩ u).setCell ⟨B, 1, none⟩ v).setCell ⟨B, 2, none⟩ q) :=
  ((h.setCell (.inl hB) u).setCell (.inl hB) v).setCell (.inl hB) q
/-- What stands there as a value, right or not. -/
def valueS (l : List UInt8) (bad : Bool) : Val × List UInt8 × Bool :=
  let p := byteS l bad
  if p.1 = 1 then ((1, (signedS p.2.1 p.2.2).1, ⟨#[]⟩), (signedS p.2.1 p.2.2).2)
  else if p.1 = 2 then ((2, 0, ⟨(textS 200 p.2.1 p.2.2).1.toArray⟩), (textS 200 p.2.1 p.2.2).2)
  else if p.1 = 3 then ((3, ((byteS p.2.1 p.2.2).1.toNat : Int), ⟨#[]⟩), (byteS p.2.1 p.2.2).2)
  else ((0, 0, ⟨#[]⟩), p.2)
set_option maxRecDepth 100000 in
set_option maxHeartbeats 2000000 in
theorem rvalue0_any (b : Nat) (l : List UInt8) (bad : Bool) (w : World) (h : RAt w b l bad) :
    Calls Try.prog 65 #[.pointer (some ⟨b, 0, none⟩)] w fun e w' => e = .returned (vagg (valueS l bad).1) ∧ RAt w' b (valueS l bad).2.1 (valueS l bad).2.2 ∧ Chg (· = b) w w' := by
  have hA : Below w.heap.size w (w.alloc (.cells #[.int .i64 0, .int .i64 0, .string ⟨#[]⟩] 35)) := (Below.refl _ _).alloc (Nat.le_refl _) _
  have hb0 : b < w.heap.size := h.1
  obtain ⟨W1, hW1⟩ : ∃ W1, W1 = w.alloc (.cells #[.int .i64 0, .int .i64 0, .string ⟨#[]⟩] 35) := ⟨_, rfl⟩
  have hblk : W1.heap[w.heap.size]? = some (.cells #[.int .i64 0, .int .i64 0, .string ⟨#[]⟩] 35 (0, 0)) := by rw [hW1]; exact Array.getElem?_push_size
  have hz1 : w.heap.size < W1.heap.size := by rw [hW1]; simp
  rw [← hW1] at hA
  have hby := byte_any b l bad W1 (h.below hA)
  obtain ⟨S, hS⟩ : ∃ S, S = valueS l bad := ⟨_, rfl⟩
  rw [← hS]
  unfold valueS at hS
  obtain ⟨⟨z, l1, b1⟩, hp⟩ : ∃ p, p = byteS l bad := ⟨_, rfl⟩
  rw [← hp] at hby hS
  simp only at hby hS
  have HS := Lib.hid hS
  have HB := Lib.hid hby
  have HBK := Lib.hid hblk
  have HWE := Lib.hid hW1.symm
  have HC0 := Lib.hid (Chg.ofBelow (S := (· = b)) hA)
  clear hA hW1 hblk hby hS hp h
  have hz256 := z.toNat_lt
  by_cases z1 : z = 1
  · have e1 : ((z.toNat : Int) == 1) = true := by rw [z1]; rfl
    have HS1 : Hid (S = ((1, (signedS l1 b1).1, ⟨#[]⟩), (signedS l1 b1).2)) := by rw [HS.out, if_pos z1]; exact rfl
    have hsg := fun W hW => rsigned_any b l1 b1 W hW
    generalize signedS l1 b1 = T at *
    have HSG := Lib.hid hsg
    clear HS hsg z1
    go_enter Try.func65, Try.ntmps65
    go_upto_region 1 with fail
    rw [HWE.out]
    go_wp2_with fail
    refine HB.out.mono ?_
    rintro e w2 ⟨rfl, hR2, hC2⟩
    have HR2 := Lib.hid hR2
    have HBK2 := Lib.hid ((hC2.block w.heap.size hz1 (by omega)).trans HBK.out)
    have HC2 := Lib.hid (HC0.out.trans hC2)
    have hz2 : w.heap.size < w2.heap.size := Nat.lt_of_lt_of_le hz1 hC2.size
    clear hR2 hC2 HB HBK HC0 HWE
    go_wp2_with fail
    refine (HSG.out _ HR2.out).mono ?_
    rintro e w3 ⟨rfl, hR3, hC3⟩
    have HR3 := Lib.hid hR3
    have HBK3 := Lib.hid ((hC3.block w.heap.size hz2 (by omega)).trans HBK2.out)
    have HC3 := Lib.hid (HC2.out.trans hC3)
    have hz3 : w.heap.size < w3.heap.size := Nat.lt_of_lt_of_le hz2 hC3.size
    clear hR3 hC3 HBK2 HC2 HR2
    go_wp2_with fail
    refine (int_any T.1 _).mono ?_
    rintro e w4 ⟨rfl, hb4⟩
    have hR4 := HR3.out.below hb4
    have hB4 := (hb4.block w.heap.size hz3).trans HBK3.out
    have hC4 := HC3.out.thenB hb4
    clear hb4 HR3 HBK3 HC3
    obtain ⟨⟨c0, c1, c2⟩, f0, f1, f2⟩ := val_at hB4
    have hs5 := vset3 hB4 (.int .i64 1) (.int .i64 T.1) (.string ⟨#[]⟩)
    have hR5 := hR4.far3 hB4 (by omega) (.int .i64 1) (.int .i64 T.1) (.string ⟨#[]⟩)
    have hC5 := hC4.set3 (B := w.heap.size) (Nat.le_refl _) (.int .i64 1) (.int .i64 T.1) (.string ⟨#[]⟩)
    have HS5 := Lib.hid hs5
    have HR5 := Lib.hid hR5
    have HC5 := Lib.hid hC5
    clear hR4 hB4 hC4 hs5 hR5 hC5
    go_wp2
    generalize ((w4.setCell ⟨w.heap.size, 0, none⟩ (.int .i64 1)).setCell ⟨w.heap.size, 1, none⟩ (.int .i64 T.1)).setCell ⟨w.heap.size, 2, none⟩ (.string ⟨#[]⟩) = w9 at HS5 HR5 HC5 ⊢
    obtain ⟨⟨d0, d1, d2⟩, _⟩ := val_at HS5.out
    have hSS := HS1.out
    simp [bodyPost, results, Try.results65, go_sem, d0, d1, d2, hSS, vagg]
    exact ⟨HR5.out, HC5.out⟩
  by_cases z2 : z = 2
  · have e1 : ((z.toNat : Int) == 1) = false := beq_false_of_ne (fun e => z1 (UInt8.toNat_inj.1 (by have : (1 : UInt8).toNat = 1 := rfl; omega)))
    have e2 : ((z.toNat : Int) == 2) = true := by rw [z2]; rfl
    have HS1 : Hid (S = ((2, 0, ⟨(textS 200 l1 b1).1.toArray⟩), (textS 200 l1 b1).2)) := by rw [HS.out, if_neg z1, if_pos z2]; exact rfl
    have hsg := fun W hW => rtext_any b 200 (by omega) l1 b1 W hW
    generalize textS 200 l1 b1 = T at *
    obtain ⟨X, hX⟩ : ∃ X : ByteArray, X = ⟨T.1.toArray⟩ := ⟨_, rfl⟩
    rw [← hX] at hsg HS1
    have HSG := Lib.hid hsg
    clear HS hsg z1 z2 hX
    go_enter Try.func65, Try.ntmps65
    go_upto_region 1 with fail
    rw [HWE.out]
    go_wp2_with fail
    refine HB.out.mono ?_
    rintro e w2 ⟨rfl, hR2, hC2⟩
    have HR2 := Lib.hid hR2
    have HBK2 := Lib.hid ((hC2.block w.heap.size hz1 (by omega)).trans HBK.out)
    have HC2 := Lib.hid (HC0.out.trans hC2)
    have hz2 : w.heap.size < w2.heap.size := Nat.lt_of_lt_of_le hz1 hC2.size
    clear hR2 hC2 HB HBK HC0 HWE
    go_wp2_with fail
    refine (HSG.out _ HR2.out).mono ?_
    rintro e w3 ⟨rfl, hR3, hC3⟩
    have HR3 := Lib.hid hR3
    have HBK3 := Lib.hid ((hC3.block w.heap.size hz2 (by omega)).trans HBK2.out)
    have HC3 := Lib.hid (HC2.out.trans hC3)
    have hz3 : w.heap.size < w3.heap.size := Nat.lt_of_lt_of_le hz2 hC3.size
    clear hR3 hC3 HBK2 HC2 HR2
    go_wp2_with fail
    refine (text_any X _).mono ?_
    rintro e w4 ⟨rfl, hb4⟩
    have hR4 := HR3.out.below hb4
    have hB4 := (hb4.block w.heap.size hz3).trans HBK3.out
    have hC4 := HC3.out.thenB hb4
    clear hb4 HR3 HBK3 HC3
    obtain ⟨⟨c0, c1, c2⟩, f0, f1, f2⟩ := val_at hB4
    have hs5 := vset3 hB4 (.int .i64 2) (.int .i64 0) (.string X)
    have hR5 := hR4.far3 hB4 (by omega) (.int .i64 2) (.int .i64 0) (.string X)
    have hC5 := hC4.set3 (B := w.heap.size) (Nat.le_refl _) (.int .i64 2) (.int .i64 0) (.string X)
    have HS5 := Lib.hid hs5
    have HR5 := Lib.hid hR5
    have HC5 := Lib.hid hC5
    clear hR4 hB4 hC4 hs5 hR5 hC5
    go_wp2
    generalize ((w4.setCell ⟨w.heap.size, 0, none⟩ (.int .i64 2)).setCell ⟨w.heap.size, 1, none⟩ (.int .i64 0)).setCell ⟨w.heap.size, 2, none⟩ (.string X) = w9 at HS5 HR5 HC5 ⊢
    obtain ⟨⟨d0, d1, d2⟩, _⟩ := val_at HS5.out
    have hSS := HS1.out
    simp [bodyPost, results, Try.results65, go_sem, d0, d1, d2, hSS, vagg]
    exact ⟨HR5.out, HC5.out⟩
  by_cases z3 : z = 3
  · have e1 : ((z.toNat : Int) == 1) = false := beq_false_of_ne (fun e => z1 (UInt8.toNat_inj.1 (by have : (1 : UInt8).toNat = 1 := rfl; omega)))
    have e2 : ((z.toNat : Int) == 2) = false := beq_false_of_ne (fun e => z2 (UInt8.toNat_inj.1 (by have : (2 : UInt8).toNat = 2 := rfl; omega)))
    have e3 : ((z.toNat : Int) == 3) = true := by rw [z3]; rfl
    have HS1 : Hid (S = ((3, ((byteS l1 b1).1.toNat : Int), ⟨#[]⟩), (byteS l1 b1).2)) := by rw [HS.out, if_neg z1, if_neg z2, if_pos z3]; exact rfl
    have hsg := fun W hW => byte_any b l1 b1 W hW
    generalize byteS l1 b1 = T at *
    have hT256 := T.1.toNat_lt
    have hTw : wrap64 (T.1.toNat : Int) = (T.1.toNat : Int) := IntWalk.wrap64_in _ ⟨by omega, by omega⟩
    have HSG := Lib.hid hsg
    clear HS hsg z1 z2 z3
    go_enter Try.func65, Try.ntmps65
    go_upto_region 1 with fail
    rw [HWE.out]
    go_wp2_with fail
    refine HB.out.mono ?_
    rintro e w2 ⟨rfl, hR2, hC2⟩
    have HR2 := Lib.hid hR2
    have HBK2 := Lib.hid ((hC2.block w.heap.size hz1 (by omega)).trans HBK.out)
    have HC2 := Lib.hid (HC0.out.trans hC2)
    have hz2 : w.heap.size < w2.heap.size := Nat.lt_of_lt_of_le hz1 hC2.size
    clear hR2 hC2 HB HBK HC0 HWE
    go_wp2_with fail
    refine (HSG.out _ HR2.out).mono ?_
    rintro e w3 ⟨rfl, hR3, hC3⟩
    have HR3 := Lib.hid hR3
    have HBK3 := Lib.hid ((hC3.block w.heap.size hz2 (by omega)).trans HBK2.out)
    have HC3 := Lib.hid (HC2.out.trans hC3)
    have hz3 : w.heap.size < w3.heap.size := Nat.lt_of_lt_of_le hz2 hC3.size
    clear hR3 hC3 HBK2 HC2 HR2
    have hR4 := HR3.out
    have hB4 := HBK3.out
    have hC4 := HC3.out
    clear HR3 HBK3 HC3
    obtain ⟨⟨c0, c1, c2⟩, f0, f1, f2⟩ := val_at hB4
    have hs5 := vset3 hB4 (.int .i64 3) (.int .i64 (T.1.toNat : Int)) (.string ⟨#[]⟩)
    have hR5 := hR4.far3 hB4 (by omega) (.int .i64 3) (.int .i64 (T.1.toNat : Int)) (.string ⟨#[]⟩)
    have hC5 := hC4.set3 (B := w.heap.size) (Nat.le_refl _) (.int .i64 3) (.int .i64 (T.1.toNat : Int)) (.string ⟨#[]⟩)
    have HS5 := Lib.hid hs5
    have HR5 := Lib.hid hR5
    have HC5 := Lib.hid hC5
    clear hR4 hB4 hC4 hs5 hR5 hC5
    go_wp2
    generalize ((w3.setCell ⟨w.heap.size, 0, none⟩ (.int .i64 3)).setCell ⟨w.heap.size, 1, none⟩ (.int .i64 (T.1.toNat : Int))).setCell ⟨w.heap.size, 2, none⟩ (.string ⟨#[]⟩) = w9 at HS5 HR5 HC5 ⊢
    obtain ⟨⟨d0, d1, d2⟩, _⟩ := val_at HS5.out
    have hSS := HS1.out
    simp [bodyPost, results, Try.results65, go_sem, d0, d1, d2, hSS, vagg]
    exact ⟨HR5.out, HC5.out⟩
  · have e1 : ((z.toNat : Int) == 1) = false := beq_false_of_ne (fun e => z1 (UInt8.toNat_inj.1 (by have : (1 : UInt8).toNat = 1 := rfl; omega)))
    have e2 : ((z.toNat : Int) == 2) = false := beq_false_of_ne (fun e => z2 (UInt8.toNat_inj.1 (by have : (2 : UInt8).toNat = 2 := rfl; omega)))
    have e3 : ((z.toNat : Int) == 3) = false := beq_false_of_ne (fun e => z3 (UInt8.toNat_inj.1 (by have : (3 : UInt8).toNat = 3 := rfl; omega)))
    have HS1 : Hid (S = ((0, 0, ⟨#[]⟩), l1, b1)) := by rw [HS.out, if_neg z1, if_neg z2, if_neg z3]; exact rfl
    clear HS z1 z2 z3
    go_enter Try.func65, Try.ntmps65
    go_upto_region 1 with fail
    rw [HWE.out]
    go_wp2_with fail
    refine HB.out.mono ?_
    rintro e w2 ⟨rfl, hR2, hC2⟩
    have HR2 := Lib.hid hR2
    have HBK2 := Lib.hid ((hC2.block w.heap.size hz1 (by omega)).trans HBK.out)
    have HC2 := Lib.hid (HC0.out.trans hC2)
    have hz2 : w.heap.size < w2.heap.size := Nat.lt_of_lt_of_le hz1 hC2.size
    clear hR2 hC2 HB HBK HC0 HWE
    have hR4 := HR2.out
    have hB4 := HBK2.out
    have hC4 := HC2.out
    clear HR2 HBK2 HC2
    obtain ⟨⟨c0, c1, c2⟩, f0, f1, f2⟩ := val_at hB4
    have hs5 := vset3 hB4 (.int .i64 0) (.int .i64 0) (.string ⟨#[]⟩)
    have hR5 := hR4.far3 hB4 (by omega) (.int .i64 0) (.int .i64 0) (.string ⟨#[]⟩)
    have hC5 := hC4.set3 (B := w.heap.size) (Nat.le_refl _) (.int .i64 0) (.int .i64 0) (.string ⟨#[]⟩)
    have HS5 := Lib.hid hs5
    have HR5 := Lib.hid hR5
    have HC5 := Lib.hid hC5
    clear hR4 hB4 hC4 hs5 hR5 hC5
    go_wp2
    generalize ((w2.setCell ⟨w.heap.size, 0, none⟩ (.int .i64 0)).setCell ⟨w.heap.size, 1, none⟩ (.int .i64 0)).setCell ⟨w.heap.size, 2, none⟩ (.string ⟨#[]⟩) = w9 at HS5 HR5 HC5 ⊢
    obtain ⟨⟨d0, d1, d2⟩, _⟩ := val_at HS5.out
    have hSS := HS1.out
    simp [bodyPost, results, Try.results65, go_sem, d0, d1, d2, hSS, vagg]
    exact ⟨HR5.out, HC5.out⟩
/-- A value that is taken: of one that isn't right nothing. -/
def valS (l : List UInt8) (bad : Bool) : Val × List UInt8 × Bool :=
  let p := valueS l bad
  if vright p.1 then (if p.2.2 then ((0, 0, ⟨#[]⟩), p.2) else p) else ((0, 0, ⟨#[]⟩), [], true)
end Go.Proofs.Ytapcnpocaffeoab
