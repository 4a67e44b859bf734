/- DiskKeeps: what was synced is there behind any crash. The walk. -/
import Derived.Test.YtmepanbfknmieaaAwake6
namespace Go.Proofs.Ytmepanbfknmieaa
open Go.RowKit Go.Maps
theorem ba_join (a b : ByteArray) (q : Nat) : (⟨(a.data.toList ++ b.data.toList.take q).toArray⟩ : ByteArray) = a ++ b.extract 0 q := by
  have h : (a ++ b.extract 0 q).data.toList = a.data.toList ++ b.data.toList.take q := by
    rw [ByteArray.data_append, Array.toList_append, ext_list, List.drop_zero, Nat.sub_zero]
  rw [← h]
theorem take_join (A B : List UInt8) (q : Nat) : (A ++ B).take (A.length + q) = A ++ B.take q := by
  rw [List.take_append, List.take_of_length_le (by omega)]
  congr 2
  omega
set_option maxRecDepth 100000 in
set_option maxHeartbeats 2000000 in
theorem keeps_walk (a b : ByteArray) (keep : Int) (w : World) (ha : a.size ≤ maxLen) (hb : b.size ≤ maxLen) (hk : -9223372036854775808 ≤ keep ∧ keep ≤ 9223372036854775807) :
    Calls Try.prog 5 #[.string a, .string b, .int .i64 keep] w fun e w' => e = .returned (.bool true) ∧ Below w.heap.size w w' := by
  have HA := Lib.hid (fun w => awake6 w)
  by_cases h1 : 300 < a.size
  · have d1 : decide ((300 : Int) < (a.size : Int)) = true := decide_eq_true (by omega)
    go_enter Try.func5, Try.ntmps5
    go_wp2_with fail
    refine (HA.out _).mono ?_
    rintro e w1 ⟨rfl, hb1⟩
    go_wp2
    go_ret
    exact ⟨rfl, hb1⟩
  have d1 : decide ((300 : Int) < (a.size : Int)) = false := decide_eq_false (by omega)
  by_cases h2 : 300 < b.size
  · have d2 : decide ((300 : Int) < (b.size : Int)) = true := decide_eq_true (by omega)
    go_enter Try.func5, Try.ntmps5
    go_wp2_with fail
    refine (HA.out _).mono ?_
    rintro e w1 ⟨rfl, hb1⟩
    go_wp2
    go_ret
    exact ⟨rfl, hb1⟩
  have d2 : decide ((300 : Int) < (b.size : Int)) = false := decide_eq_false (by omega)
  have hla : a.data.toList.length = a.size := blen a
  have hlb : b.data.toList.length = b.size := blen b
  obtain ⟨A, hA⟩ : ∃ A, A = a.data.toList := ⟨_, rfl⟩
  obtain ⟨B, hB⟩ : ∃ B, B = b.data.toList := ⟨_, rfl⟩
  rw [← hA] at hla
  rw [← hB] at hlb
  obtain ⟨q, hq⟩ : ∃ q, q = min keep.toNat b.size := ⟨_, rfl⟩
  have hqb : q ≤ b.size := by omega
  have hq2 : min (max keep 0) (b.size : Int) = (q : Int) := by omega
  have hqi : (q : Int) ≤ (b.size : Int) := by omega
  obtain ⟨f, hf⟩ : ∃ f : ByteArray, f = ⟨#[102]⟩ := ⟨_, rfl⟩
  have hfm : mayB f = true := by rw [hf]; decide
  have hfs : f.size ≤ 281474976710656 := by rw [hf]; decide
  obtain ⟨D, hD⟩ : ∃ D, D = a ++ b.extract 0 q := ⟨_, rfl⟩
  have hDl : D.data.toList = A ++ B.take q := by
    rw [hD, ← ba_join, hA, hB]
  have hDs : D.size = a.size + q := by
    rw [← blen, hDl, List.length_append, List.length_take, hla, hlb]
    omega
  have hcr : ∀ u, crashM ⟨true, u, false, 0, 1000, [(f.data.toList, (A ++ B, A.length))]⟩ [keep] = ⟨true, u, false, 0, 1000, [(f.data.toList, (D.data.toList, D.size))]⟩ := by
    intro u
    rw [cra1]
    have e : keepN (A ++ B).length A.length keep = A.length + q := by
      unfold keepN
      rw [List.length_append, hq]
      omega
    rw [e, take_join, ← hDl, hDs, hla]
  have hcr2 : ∀ u, crashM ⟨true, u, false, 0, 1000, [(f.data.toList, (D.data.toList, D.size))]⟩ [1000] = ⟨true, u, false, 0, 1000, [(f.data.toList, (D.data.toList, D.size))]⟩ := by
    intro u
    rw [cra1]
    have e : keepN D.data.toList.length D.size 1000 = D.size := by
      unfold keepN
      rw [blen]; omega
    rw [e, List.take_of_length_le (by rw [blen]; omega)]
  have htot : ((totF [(f.data.toList, (D.data.toList, D.size))] : Nat) : Int) = (D.size : Int) := by
    simp [totF, totV]
  have HCR := Lib.hid hcr
  have HCR2 := Lib.hid hcr2
  have HTOT := Lib.hid htot
  have HD := Lib.hid hD
  have HF := Lib.hid hf
  obtain ⟨K, hK⟩ : ∃ K, K = f.data.toList := ⟨_, rfl⟩
  have HK := Lib.hid hK
  have HLA := Lib.hid hla
  have HLB := Lib.hid hlb
  have HAA := Lib.hid hA
  have HBB := Lib.hid hB
  have HDS := Lib.hid hDs
  clear hK hcr hcr2 htot hDl hf hla hlb hA hB hDs hq
  go_enter Try.func5, Try.ntmps5
  go_wp2_with fail
  refine (HA.out _).mono ?_
  rintro e w1 ⟨rfl, hb1⟩
  have HB1 := Lib.hid hb1
  have HN := Lib.hid (db_new 1000 (by omega) (by omega) w1)
  clear hb1
  go_wp2_with fail
  refine HN.out.mono ?_
  rintro e w2 ⟨rfl, h2⟩
  have c1 := db_append h2 f hfs #[.string a] [a] 1 rfl (by omega) rfl (fun x hx => by simp at hx; subst hx; omega)
  rw [show joinB [a] = A by rw [HAA.out]; simp [joinB], app0 0 1000 f A hfm (by rw [HLA.out]; omega) (by rw [HLA.out]; omega), ← HK.out, HF.out] at c1
  have C1 := Lib.hid c1
  clear c1 h2 HN
  go_wp2_with fail
  refine C1.out.mono ?_
  rintro e w3 ⟨rfl, h3⟩
  rw [HK.out] at h3
  have c2 := db_sync h3 #[.string f] [f] 1 rfl (by omega) rfl (fun x hx => by simp at hx; subst hx; exact hfs)
  rw [syn1 _ _ _ _ _ hfm, ← HK.out, HF.out] at c2
  have C2 := Lib.hid c2
  clear c2 h3 C1
  go_wp2_with fail
  refine C2.out.mono ?_
  rintro e w4 ⟨rfl, h4⟩
  rw [HK.out] at h4
  have c3 := db_append h4 f hfs #[.string b] [b] 1 rfl (by omega) rfl (fun x hx => by simp at hx; subst hx; omega)
  rw [show joinB [b] = B by rw [HBB.out]; simp [joinB], app1 _ 1000 f A B _ hfm (by rw [HLA.out, HLB.out]; omega) (by rw [HLA.out, HLB.out]; omega), ← HK.out, HF.out] at c3
  have C3 := Lib.hid c3
  clear c3 h4 C2
  go_wp2_with fail
  refine C3.out.mono ?_
  rintro e w5 ⟨rfl, h5⟩
  rw [HK.out] at h5
  have c4 := db_crash1 h5 keep hk
  rw [HCR.out, ← HK.out] at c4
  have C4 := Lib.hid c4
  clear c4 h5 C3
  go_wp2_with fail
  refine C4.out.mono ?_
  rintro e w6 ⟨rfl, h6⟩
  rw [HK.out] at h6
  have c5 := db_read h6 f (by unfold maxLen; omega)
  rw [read1, show (⟨D.data.toList.toArray⟩ : ByteArray) = D by simp, ← HK.out, HF.out] at c5
  have C5 := Lib.hid c5
  clear c5 h6 C4
  go_wp2_with fail
  refine C5.out.mono ?_
  rintro e w7 ⟨rfl, h7⟩
  rw [HK.out] at h7
  have c6 := db_crash1 h7 1000 (by decide)
  rw [HCR2.out, ← HK.out] at c6
  have C6 := Lib.hid c6
  clear c6 h7 C5
  go_wp2_with fail
  refine C6.out.mono ?_
  rintro e w8 ⟨rfl, h8⟩
  rw [HK.out] at h8
  have c7 := db_read h8 f (by unfold maxLen; omega)
  rw [read1, show (⟨D.data.toList.toArray⟩ : ByteArray) = D by simp, ← HK.out, HF.out] at c7
  have C7 := Lib.hid c7
  clear c7 h8 C6
  go_wp2_with fail
  refine C7.out.mono ?_
  rintro e w9 ⟨rfl, h9⟩
  rw [HK.out] at h9
  have c8 := db_used h9
  simp only [HTOT.out] at c8
  have C8 := Lib.hid c8
  clear c8 h9 C7
  go_wp2_with fail
  refine C8.out.mono ?_
  rintro e w10 ⟨rfl, h10⟩
  have HB := Lib.hid (Below.thenB HB1.out HB1.out.size h10.bel)
  clear h10 C8
  go_wp2
  go_ret
  exact ⟨rfl, HB.out⟩
theorem keeps_row (v0 : Value) (a : ByteArray) (v1 : Value) (b : ByteArray) (v2 : Value) (z : Int) (w : World) (y0 : v0 = .string a ∧ a.size ≤ maxLen) (y1 : v1 = .string b ∧ b.size ≤ maxLen) (y2 : v2 = .int .i64 z ∧ (Lit.int .i64 z).wf = true) :
    Calls Try.prog 5 #[v0, v1, v2] w fun e w' => e = .returned (.bool true) ∧ Below w.heap.size w w' := by
  obtain ⟨rfl, ha⟩ := y0
  obtain ⟨rfl, hb⟩ := y1
  obtain ⟨rfl, hz⟩ := y2
  exact keeps_walk a b z w ha hb (wf_i64 hz)
end Go.Proofs.Ytmepanbfknmieaa
