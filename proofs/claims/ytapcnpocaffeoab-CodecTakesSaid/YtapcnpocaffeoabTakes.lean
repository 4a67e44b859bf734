/- The walk of CodecTakes. -/
import Derived.Test.YtapcnpocaffeoabRws2
import Derived.Test.YtapcnpocaffeoabRdAsk
namespace Go.Proofs.Ytapcnpocaffeoab
open Go.RowKit Go.ChangeShapes Go.WideShapes Go.ChangeAt
theorem rst_some {b : Nat} {w : World} {l : List UInt8} {bd : Bool} (h : RSt (some ⟨b, 0, none⟩) w l bd) : RAt w b l bd := by
  rcases h with ⟨h, _⟩ | ⟨b', e, h⟩
  · cases h
  · injection e with e; injection e with e; subst e; exact h
theorem rchg {b : Nat} {w w' : World} (h : Chg (· = b) w w') : Chg (RBlk (some ⟨b, 0, none⟩)) w w' := h.mono fun k _ e => by have e' : k = b := e; subst e'; rfl
theorem rpost {b : Nat} {v : Value} {w : World} {l : List UInt8} {bd : Bool} (e : Ending) (w' : World) (h : e = .returned v ∧ RAt w' b l bd ∧ Chg (· = b) w w') : e = .returned v ∧ RSt (some ⟨b, 0, none⟩) w' l bd ∧ Chg (RBlk (some ⟨b, 0, none⟩)) w w' := ⟨h.1, .inr ⟨b, rfl, h.2.1⟩, rchg h.2.2⟩
theorem rpostV {b : Nat} {P : Ending → World → Prop} {w : World} {l : List UInt8} {bd : Bool} (e : Ending) (w' : World) (h : P e w' ∧ RAt w' b l bd ∧ Chg (· = b) w w') : P e w' ∧ RSt (some ⟨b, 0, none⟩) w' l bd ∧ Chg (RBlk (some ⟨b, 0, none⟩)) w w' := ⟨h.1, .inr ⟨b, rfl, h.2.1⟩, rchg h.2.2⟩
theorem sizeS_len (most : Int) (l : List UInt8) (bd : Bool) : (sizeS most l bd).2.1.length ≤ l.length := by
  unfold sizeS
  split
  · simp
  · exact (numberS_len _ l bd).1
theorem signedS_le (l : List UInt8) (bd : Bool) : (signedS l bd).2.1.length ≤ l.length := (numberS_len _ l bd).1
theorem textS_le (most : Int) (l : List UInt8) (bd : Bool) : (textS most l bd).2.1.length ≤ l.length := Nat.le_trans (takeS_len _ _ _) (sizeS_len most l bd)
theorem rowS_le (most : Int) (l : List UInt8) (bd : Bool) : (rowS most l bd).2.1.length ≤ l.length := by
  have := valsS_le (sizeS most l bd).1 (sizeS most l bd).2.1 (sizeS most l bd).2.2
  have h0 := sizeS_len most l bd
  unfold rowS
  simp only
  split <;> exact Nat.le_trans this h0
theorem rowsLS_le (cols : Int) : ∀ (n : Nat) (l : List UInt8) (bd : Bool), (rowsLS cols n l bd).2.1.length ≤ l.length
  | 0, l, bd => by simp [rowsLS]
  | n + 1, l, true => by rw [rowsLS_bad]; exact Nat.le_refl _
  | n + 1, l, false => by rw [rowsLS_good]; exact Nat.le_trans (rowsLS_le cols n _ _) (rowS_le cols l false)
theorem rowsS_le (most cols : Int) (l : List UInt8) (bd : Bool) : (rowsS most cols l bd).2.1.length ≤ l.length := by
  have := rowsLS_le cols (sizeS most l bd).1 (sizeS most l bd).2.1 (sizeS most l bd).2.2
  have h0 := sizeS_len most l bd
  unfold rowsS
  simp only
  split <;> exact Nat.le_trans this h0
theorem take_alike (b p : Nat) (k n m : Int) (hn : n ≤ 9223372036854775807) (hm : m ≤ 9223372036854775807) (l : List UInt8) (hl : l.length ≤ 3000) (bd : Bool) : Alike (some ⟨b, 0, none⟩) p k n m l bd := by
  by_cases h0 : k = 0
  · exact ⟨(sizeS n l bd).2.1, (sizeS n l bd).2.2, sizeS_len n l bd, fun _ => ⟨_, fun W h => (rsize_any b n hn l bd W (rst_some h)).mono rpost, fun W h => psize_any p n hn l bd W h⟩, fun h => (by omega), fun h => (by omega), fun h => (by omega), fun h => (by omega), fun h => (by omega)⟩
  by_cases h1 : k = 1
  · exact ⟨(signedS l bd).2.1, (signedS l bd).2.2, signedS_le l bd, fun h => (by omega), fun _ => ⟨_, fun W h => (rsigned_any b l bd W (rst_some h)).mono rpost, fun W h => psigned_any p l bd W h⟩, fun h => (by omega), fun h => (by omega), fun h => (by omega), fun h => (by omega)⟩
  by_cases h2 : k = 2
  · exact ⟨(textS n l bd).2.1, (textS n l bd).2.2, textS_le n l bd, fun h => (by omega), fun h => (by omega), fun _ => ⟨_, fun W h => (rtext_any b n hn l bd W (rst_some h)).mono rpost, fun W h => ptext_any p n hn l bd W h⟩, fun h => (by omega), fun h => (by omega), fun h => (by omega)⟩
  by_cases h3 : k = 3
  · exact ⟨(valS l bd).2.1, (valS l bd).2.2, (valS_len l bd).1, fun h => (by omega), fun h => (by omega), fun h => (by omega), fun _ => ⟨(valS l bd).1.1, (valS l bd).1.2.1, (valS l bd).1.2.2, fun W h => (rvalue_any b l bd W (rst_some h)).mono rpost, fun W h => pvalue_any p l bd W h⟩, fun h => (by omega), fun h => (by omega)⟩
  by_cases h4 : k = 4
  · exact ⟨(rowS n l bd).2.1, (rowS n l bd).2.2, rowS_le n l bd, fun h => (by omega), fun h => (by omega), fun h => (by omega), fun h => (by omega), fun _ => ⟨(rowS n l bd).1, (by have := rowS_len n l bd; omega), fun W h => (rrow_any b n hn l bd W (rst_some h)).mono rpostV, fun W h => prow_any p n hn l (by omega) bd W h⟩, fun h => (by omega)⟩
  · exact ⟨(rowsS n m l bd).2.1, (rowsS n m l bd).2.2, rowsS_le n m l bd, fun h => (by omega), fun h => (by omega), fun h => (by omega), fun h => (by omega), fun h => (by omega), fun _ => ⟨(rowsS n m l bd).1, (by have := (rowsS_len n m l bd).1; omega), (fun r hr => by have := (rowsS_len n m l bd).2 r hr; omega), fun W h => (rrowss_any b n m hn hm l bd W (rst_some h)).mono rpostV, fun W h => prows_any p n m hn hm l (by omega) bd W h⟩⟩
/-- A list of Asks, as an argument. -/
def Asks (w : World) (a : Option Addr) (ks : List Ask3) : Prop := ks = [] ∨ ks ≠ [] ∧ ∃ b o, a = some ⟨b, o, none⟩ ∧ b < w.heap.size ∧ ∀ (i : Nat) (v : Ask3), ks[i]? = some v → w.cell? ⟨b, o + i * 3, none⟩ = some (.int .i64 v.1) ∧ w.cell? ⟨b, o + i * 3 + 1, none⟩ = some (.int .i64 v.2.1) ∧ w.cell? ⟨b, o + i * 3 + 2, none⟩ = some (.int .i64 v.2.2)
def AsksArg (W : World) (v : Value) (ks : List Ask3) : Prop := ∃ a m c, v = .slice a m c ∧ ks.length = m ∧ m ≤ c ∧ c ≤ maxLen ∧ Asks W a ks ∧ ∀ k ∈ ks, k.2.1 ≤ 9223372036854775807 ∧ k.2.2 ≤ 9223372036854775807
theorem asks_of {W : World} {v : Value} {ks : List Ask3} (h : RL 3 RAsk W [v] ks) : AsksArg W v ks := by
  obtain ⟨a, m, c, h1, h2, h3, h4, h5⟩ := h
  refine ⟨a, m, c, by simpa using h1, h2, h3, h4, ?_⟩
  rcases h5 with rfl | ⟨hn, b, o, ha, hlt, h5⟩
  · exact ⟨.inl rfl, fun v hv => by cases hv⟩
  · refine ⟨.inr ⟨hn, b, o, ha, hlt, fun i v hi => ?_⟩, fun v hv => ?_⟩
    · obtain ⟨cs', k1, k2, k3, _⟩ := h5 i v hi
      rw [k3] at k2
      exact ⟨k2 0 (by decide), k2 1 (by decide), k2 2 (by decide)⟩
    · obtain ⟨i, hi, rfl⟩ := List.mem_iff_getElem.1 hv
      obtain ⟨cs', _, _, _, w1, w2, w3⟩ := h5 i _ (List.getElem?_eq_getElem hi)
      exact ⟨(wf_i64 w2).2, (wf_i64 w3).2⟩
set_option maxRecDepth 100000 in
theorem rd_asks {H : Type} {enc : TypeId × Value → H} {W : World} {base : Nat} {v : Value} {d : DataW H} {p : List MemPlace} (hv : Value.okWide Try.prog W .any base 53 v) (h : DataW.Trod enc Try.prog W 0 (fun _ => true) true 53 v d p) :
    ∃ ks, AsksArg W v ks := by
  obtain ⟨ks, hx⟩ := rd_list Try.underlying53 (op_list (sz := 3) Try.underlying53 (by kernel_rfl) (by decide) (op_ask H enc W)) hv h
  exact ⟨ks, asks_of hx⟩
theorem Asks.at {w w' : World} {a : Option Addr} {ks : List Ask3} {m k : Nat} (hv : Asks w a ks) (hl : ks.length = m) (hk : k < m) (hb : Below w.heap.size w w') :
    ∃ b o v, a = some ⟨b, o, none⟩ ∧ b < w.heap.size ∧ ks[k]? = some v ∧ w'.cell? ⟨b, o + k * 3, none⟩ = some (.int .i64 v.1) ∧ w'.cell? ⟨b, o + k * 3 + 1, none⟩ = some (.int .i64 v.2.1) ∧ w'.cell? ⟨b, o + k * 3 + 2, none⟩ = some (.int .i64 v.2.2) := by
  rcases hv with hv | ⟨hne, b, o, rfl, hlt, hz⟩
  · rw [hv] at hl; simp at hl; omega
  · obtain ⟨v, hvk⟩ : ∃ v, ks[k]? = some v := ⟨_, List.getElem?_eq_getElem (by omega)⟩
    obtain ⟨z0, z1, z2⟩ := hz k v hvk
    exact ⟨b, o, v, rfl, hlt, hvk, (hb.cell (p := ⟨b, o + k * 3, none⟩) hlt).trans z0, (hb.cell (p := ⟨b, o + k * 3 + 1, none⟩) hlt).trans z1, (hb.cell (p := ⟨b, o + k * 3 + 2, none⟩) hlt).trans z2⟩
set_option maxRecDepth 100000 in
set_option maxHeartbeats 4000000 in
theorem takes_walk (v0 : Value) (x0 : ByteArray) (v1 : Value) (x1 : List Ask3) (w : World) (y0 : v0 = .string x0 ∧ x0.size ≤ maxLen) (y1 : AsksArg w v1 x1) : Calls Try.prog 4 #[v0, v1] w fun e w' => e = .returned (.bool true) ∧ Below w.heap.size w w' := by
  obtain ⟨rfl, hx0⟩ := y0
  obtain ⟨a, m, c, rfl, hl, hmc, hc, hks, hok⟩ := y1
  have HA := Lib.hid awake4
  have HL := Lib.hid hl
  have HK := Lib.hid hks
  have HOK := Lib.hid hok
  clear hl hks hok
  by_cases hbig : 3000 < x0.size ∨ 60 < m
  · have hor : (3000 < x0.size) ∨ (¬ 3000 < x0.size ∧ 60 < m) := by omega
    rcases hor with h1 | ⟨h1, h2⟩
    · have hd : decide ((3000 : Int) < (x0.size : Int)) = true := decide_eq_true (by omega)
      go_enter Try.func4, Try.ntmps4
      go_wp2_with fail
      refine (HA.out _).mono ?_
      rintro e w3 ⟨rfl, hb3⟩
      go_wp2
      go_ret
      exact ⟨rfl, hb3⟩
    · have hd : decide ((3000 : Int) < (x0.size : Int)) = false := decide_eq_false (by omega)
      have hd2 : decide ((60 : Int) < (m : Int)) = true := decide_eq_true (by omega)
      go_enter Try.func4, Try.ntmps4
      go_wp2_with fail
      refine (HA.out _).mono ?_
      rintro e w3 ⟨rfl, hb3⟩
      go_wp2
      go_ret
      exact ⟨rfl, hb3⟩
  · have h1 : ¬ 3000 < x0.size := by omega
    have h2 : ¬ 60 < m := by omega
    have hd : decide ((3000 : Int) < (x0.size : Int)) = false := decide_eq_false (by omega)
    have hd2 : decide ((60 : Int) < (m : Int)) = false := decide_eq_false (by omega)
    have hxl : x0.data.toList.length = x0.size := Array.length_toList
    clear hbig
    go_enter Try.func4, Try.ntmps4
    go_wp2_with fail
    refine (HA.out _).mono ?_
    rintro e w1 ⟨rfl, hb1⟩
    have HRD := Lib.hid (read_any x0 (by omega) w1)
    have HB1 := Lib.hid hb1
    have hz1 := hb1.size
    clear hb1
    go_wp2_with fail
    refine HRD.out.mono ?_
    rintro e w2 ⟨⟨b, rfl, hbb, hR⟩, hb2⟩
    have hz2 := hb2.size
    have hB2 := Below.thenB HB1.out hz1 hb2
    obtain ⟨W3, hW3⟩ : ∃ W3, W3 = w2.alloc (.cells #[.string x0, .bool false] 58) := ⟨_, rfl⟩
    have hA3 : Below w2.heap.size w2 W3 := by rw [hW3]; exact (Below.refl _ _).alloc (Nat.le_refl _) _
    have hp3 : W3.heap[w2.heap.size]? = some (.cells #[.string x0, .bool false] 58 (0, 0)) := by rw [hW3]; exact Array.getElem?_push_size
    have hs3 : W3.heap.size = w2.heap.size + 1 := by rw [hW3]; simp
    have HST := Lib.hid (show St (some ⟨b, 0, none⟩) w2.heap.size W3 x0.data.toList false from ⟨.inr ⟨b, rfl, hR.below hA3⟩, x0, ⟨by omega, hp3⟩, fun _ => rfl⟩)
    have HB3 := Lib.hid (Below.thenB hB2 (by omega) hA3)
    have HW3 := Lib.hid hW3.symm
    clear hR hb2 hB2 hA3 hp3 hW3 HRD HB1
    go_upto_region 5 with fail
    rw [HW3.out]
    clear HW3
    go_wp2_with fail
    go_loopw [7] (fun iv wr => ∃ (i : Nat) (l' : List UInt8) (b' : Bool), i ≤ m ∧ iv = .int .i64 (i : Int) ∧ St (some ⟨b, 0, none⟩) w2.heap.size wr l' b' ∧ l'.length ≤ 3000 ∧ Below w.heap.size w wr) (fun iv _ => m - (intOf iv).toNat)
    case atStart => exact ⟨0, _, _, Nat.zero_le _, rfl, HST.out, by omega, HB3.out⟩
    case round =>
      obtain ⟨i, l', b', hi, rfl, hst, hll, hbel⟩ := hrel
      by_cases hlt : i < m
      · have hlt' : decide ((i : Int) < (m : Int)) = true := decide_eq_true (by omega)
        obtain ⟨bk, o, ⟨k, n, q⟩, rfl, hbk, hik, c0, c1, c2⟩ := Asks.at HK.out HL.out hlt hbel
        simp only [] at c0 c1 c2
        obtain ⟨hn, hq⟩ := HOK.out _ (List.mem_of_getElem? hik)
        simp only [] at hn hq
        have hsm := same_walk (some ⟨b, 0, none⟩) w2.heap.size k n q l' b' wr hst (take_alike b _ k n q hn hq l' hll b')
        unfold vask at hsm
        have HSM := Lib.hid hsm
        have HBL := Lib.hid hbel
        have hszr := hbel.size
        clear hsm hst hbel hik
        go_wp2_with fail
        refine HSM.out.mono ?_
        rintro e w4 ⟨rfl, ⟨l4, b4, hs4, hl4⟩, hC4⟩
        have hz4 := hC4.size
        have hB4 : Below w.heap.size w w4 := HBL.out.trans (hC4.below hszr (fun k _ hk => by
          rcases hk with hk | hk
          · injection hk with hk; injection hk with hk; omega
          · omega))
        have HS4 := Lib.hid hs4
        have HB4 := Lib.hid hB4
        clear hs4 hC4 hB4 HSM HBL c0 c1 c2
        go_wp2
        go_roundw
        case rel => exact ⟨i + 1, l4, b4, by omega, by go_num, HS4.out, by omega, HB4.out⟩
        case measure => simp [intOf]; omega
      · have hlt' : decide ((i : Int) < (m : Int)) = false := decide_eq_false (by omega)
        have HBL := Lib.hid hbel
        clear hst hbel
        go_wp2
        go_ret
        exact ⟨rfl, HBL.out⟩
end Go.Proofs.Ytapcnpocaffeoab
