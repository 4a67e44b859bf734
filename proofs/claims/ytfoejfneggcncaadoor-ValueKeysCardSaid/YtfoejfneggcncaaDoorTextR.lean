/- Contracts of the document's texts of numbers: Print. -/
import Derived.Test.YtfoejfneggcncaaDoorNumE
import Derived.Test.YtfoejfneggcncaaDoorParse
import Derived.Laws.IdiomStrings
namespace Go.Proofs.YtfoejfneggcncaaDoor
open Go.RowKit
theorem conv_one (w : World) (z : Int) (h0 : 0 ≤ z) (h1 : z < 256) : (convert 45 9 (Value.slice (some ⟨w.heap.size, 0, none⟩) 1 1)).run Tryd.prog (w.alloc (.cells #[Value.int .u8 z] 5)) = .ok (.string ⟨#[UInt8.ofNat z.toNat]⟩) (w.alloc (.cells #[Value.int .u8 z] 5)) := by
  have h := run_convert_bytes_back (P := Tryd.prog) (w.alloc (.cells #[Value.int .u8 z] 5)) 45 9 5 ⟨w.heap.size, 0, none⟩ 1 [UInt8.ofNat z.toNat] Tryd.underlying45 Tryd.underlying5 Tryd.underlying9 (by
    intro j hj
    obtain rfl : j = 0 := by simpa using hj
    have e : ((UInt8.ofNat z.toNat).toNat : Int) = z := by simp [UInt8.toNat_ofNat']; omega
    show _ = some (Value.int .u8 ((UInt8.ofNat z.toNat).toNat : Int))
    rw [e]
    go_simp)
  exact h
theorem str_app (a b : List UInt8) : (⟨a.toArray⟩ : ByteArray) ++ ⟨b.toArray⟩ = ⟨(a ++ b).toArray⟩ := by
  apply ByteArray.ext
  simp
theorem itoa_zero : Lib.itoa 0 = [48] := by simp [Lib.itoa, Lib.decDigits_one]
theorem spell_len (ds : List Int) : (spell ds).length = ds.length := by simp [spell]
theorem itoa_spell {n : Int} {ds : List Int} (hn : ds ≠ []) (hc : Canon ds) (hv : dval ds = n.natAbs) : Lib.itoa n = if n < 0 then 45 :: spell ds else spell ds := by
  rw [spell_dec ds hn hc, hv]
  unfold Lib.itoa
  by_cases h : n < 0
  · rw [if_pos h, if_pos h]; congr 2
  · rw [if_neg h, if_neg h]; congr 1; omega
end Go.Proofs.YtfoejfneggcncaaDoor
