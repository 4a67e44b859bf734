/- Contracts of the document's texts of numbers: Print. -/
import Derived.Test.YtbodldlenoehfaaDoorNumE
import Derived.Test.YtbodldlenoehfaaDoorParse
import Derived.Laws.IdiomStrings
namespace Go.Proofs.YtbodldlenoehfaaDoor
open Go.RowKit
theorem conv_one (w : World) (z : Int) (h0 : 0 ≤ z) (h1 : z < 256) : (convert 74 9 (Value.slice (some ⟨w.heap.size, 0, none⟩) 1 1)).run Tryd.prog (w.alloc (.cells #[Value.int .u8 z] 5)) = .ok (.string ⟨#[UInt8.ofNat z.toNat]⟩) (w.alloc (.cells #[Value.int .u8 z] 5)) := by
  have h := run_convert_bytes_back (P := Tryd.prog) (w.alloc (.cells #[Value.int .u8 z] 5)) 74 9 5 ⟨w.heap.size, 0, none⟩ 1 [UInt8.ofNat z.toNat] Tryd.underlying74 Tryd.underlying5 Tryd.underlying9 (by
    intro j hj
    obtain rfl : j = 0 := by simpa using hj
    have e : ((UInt8.ofNat z.toNat).toNat : Int) = z := by simp [UInt8.toNat_ofNat']; omega
    show _ = some (Value.int .u8 ((UInt8.ofNat z.toNat).toNat : Int))
    rw [e]
    go_simp)
  exact h
theorem str_app (a b : List UInt8) : (⟨a.toArray⟩ : ByteArray) ++ ⟨b.toArray⟩ = ⟨(a ++ b).toArray⟩ := by
  apply ByteArray.ext
  simp
theorem itoa_zero : Lib.itoa 0 = [48] := by simp [Lib.itoa, Lib.decDigits_one]
theorem spell_len (ds : List Int) : (spell ds).length = ds.length := by simp [spell]
theorem itoa_spell {n : Int} {ds : List Int} (hn : ds ≠ []) (hc : Canon ds) (hv : dval ds = n.natAbs) : Lib.itoa n = if n < 0 then 45 :: spell ds else spell ds := by
  rw [spell_dec ds hn hc, hv]
  unfold Lib.itoa
  by_cases h : n < 0
  · rw [if_pos h, if_pos h]; congr 2
  · rw [if_neg h, if_neg h]; congr 1; omega
set_option maxRecDepth 100000 in
set_option maxHeartbeats 400000 in
theorem rprint_any (n : Int) (h0 : -9223372036854775808 ≤ n) (h1 : n ≤ 9223372036854775807) (w : World) :
    Calls Tryd.prog 14 #[.int .i64 n] w fun e w' => e = .returned (.string ⟨(Lib.itoa n).toArray⟩) ∧ Below w.heap.size w w' := by
  go_enter Tryd.func14, Tryd.ntmps14
  go_wp2_with fail
  refine (of_any n _ h0 h1).mono ?_
  rintro e w1 ⟨x, a, m, c, rfl, hnum, hb1, hfr⟩
  obtain ⟨hx, ds, hl, hc, hz, hcn, hv⟩ := hnum
  have HX := Lib.hid hx
  have HV := Lib.hid hv
  have HL := Lib.hid hl
  clear hx hv hl
  have hlen : m ≤ 20 := by
    have := canon_len hcn (k := 20) (by rw [HV.out]; have : pw 20 = 100000000000000000000 := by decide
                                        omega)
    have := HL.out
    omega
  have hsz1 := hb1.size
  obtain ⟨B, hB⟩ : ∃ B, B = w1.heap.size := ⟨_, rfl⟩
  by_cases hm : m = 0
  · have hd : ((m : Int) == 0) = true := by simp [hm]
    have H := Lib.hid hm
    clear hm
    go_wp2
    go_ret
    have h0 : ds = [] := List.eq_nil_of_length_eq_zero (by rw [HL.out]; exact H.out)
    have hn : n = 0 := by
      have := HV.out
      rw [h0] at this
      simp [dval] at this
      omega
    exact ⟨by rw [hn, itoa_zero]; rfl, Below.thenB hb1 hsz1 ((Below.refl _ _).alloc (Nat.le_refl _) _)⟩
  · have hd : ((m : Int) == 0) = false := by simpa using hm
    have H := Lib.hid hm
    clear hm
    go_wp2
    go_loopw [4, 5] (fun s i wr => ∃ k : Nat, k ≤ m ∧ i = .int .i64 (k : Int) ∧ s = .string ⟨(spell (ds.take k)).toArray⟩ ∧ Below (w1.heap.size + 1) (w1.alloc (.cells #[.bool x, .slice a m c] 68)) wr) (fun _ i _ => m - (intOf i).toNat)
    case atStart => exact ⟨0, Nat.zero_le _, rfl, rfl, Below.refl _ _⟩
    case round =>
      obtain ⟨k, hk, rfl, rfl, hbel⟩ := hrel
      have hszr := hbel.size
      simp at hszr
      have e0 : wr.cell? ⟨w1.heap.size, 0, none⟩ = some (.bool x) := by rw [hbel.cell (p := ⟨w1.heap.size, 0, none⟩) (Nat.lt_succ_self _)]; go_simp
      have e1 : wr.cell? ⟨w1.heap.size, 1, none⟩ = some (.slice a m c) := by rw [hbel.cell (p := ⟨w1.heap.size, 1, none⟩) (Nat.lt_succ_self _)]; go_simp
      by_cases hlt : k < m
      · have hlt' : decide ((k : Int) < (m : Int)) = true := by simpa using hlt
        rcases hz with hz | ⟨hne, b, o, rfl, hb, hz⟩
        · exact absurd (show m = 0 by rw [← HL.out, hz]; rfl) H.out
        have hzk := hz k (by rw [HL.out]; exact hlt)
        clear hz
        have hdk := hcn.1 (ds.getD k 0) (by rw [List.getD_eq_getElem?_getD, List.getElem?_eq_getElem (by rw [HL.out]; exact hlt)]; simp)
        have hts := take_snocD ds k (by rw [HL.out]; exact hlt)
        have hsp : spell (ds.take (k + 1)) = UInt8.ofNat (48 + (ds.getD k 0).toNat) :: spell (ds.take k) := by rw [hts, spell_snoc]
        have HS := Lib.hid hsp
        clear hts hsp
        have hc1 : wr.cell? ⟨b, o + k, none⟩ = some (.int .i64 (ds.getD k 0)) := by
          rw [hbel.cell (p := ⟨b, o + k, none⟩) (Nat.lt_succ_of_lt hb), World.cell?_alloc_lt _ _ _ hb]; exact hzk
        clear hzk
        generalize hg : ds.getD k 0 = d at *
        have HG := Lib.hid hg
        clear hg
        obtain ⟨hd0, hd1⟩ := hdk
        have hcv := conv_one wr (48 + d) (by omega) (by omega)
        have hsl : (spell (ds.take k)).length ≤ 20 := by rw [spell_len, List.length_take]; omega
        go_wp2
        refine ⟨⟨k + 1, by omega, by go_num, ?_, ?_⟩, by simp [intOf]; omega⟩
        · rw [HS.out, str_app]
          have e : (48 + d).toNat = 48 + d.toNat := by omega
          rw [e]; rfl
        · exact hbel.alloc hszr _
      · have hlt' : decide ((k : Int) < (m : Int)) = false := by simpa using hlt
        have hsl : (spell (ds.take k)).length ≤ 20 := by rw [spell_len, List.length_take]; omega
        have hbf : Below w.heap.size w wr := Below.thenB hb1 hsz1 (((Below.refl _ _).alloc (Nat.le_refl _) _).trans (hbel.mono (by omega)))
        have hkm : ds.take k = ds := List.take_of_length_le (by have := HL.out; omega)
        have hit : Lib.itoa n = if n < 0 then 45 :: spell (ds.take k) else spell (ds.take k) := by
          rw [hkm]
          exact itoa_spell (fun e => H.out (by rw [← HL.out, e]; rfl)) hcn HV.out
        have HI := Lib.hid hit
        clear hit hkm
        go_wp2
        · go_ret
          have hneg : n < 0 := by simpa using HX.out.symm.trans ‹x = true›
          have hi := HI.out
          rw [if_pos hneg] at hi
          exact ⟨by rw [hi]; show Ending.returned (.string ((⟨[45].toArray⟩ : ByteArray) ++ ⟨_⟩)) = _; rw [str_app]; rfl, hbf⟩
        · go_ret
          have hneg : ¬ n < 0 := by simpa using HX.out.symm.trans ‹x = false›
          have hi := HI.out
          rw [if_neg hneg] at hi
          exact ⟨by rw [hi]; rfl, hbf⟩
end Go.Proofs.YtbodldlenoehfaaDoor
