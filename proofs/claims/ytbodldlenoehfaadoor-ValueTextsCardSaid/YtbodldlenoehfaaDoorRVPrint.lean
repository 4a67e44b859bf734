/- Contracts of the document's Print and Parse of values. -/
import Derived.Test.YtbodldlenoehfaaDoorScan
namespace Go.Proofs.YtbodldlenoehfaaDoor
open Go.RowKit
theorem extract_one (s : ByteArray) (k : Nat) (h : k < s.size) : s.extract k (k + 1) = ⟨[s[k]].toArray⟩ := by
  apply ByteArray.ext
  apply Array.toList_inj.1
  rw [Lib.extract_data]
  have hl : k < s.data.toList.length := by rw [← Lib.size_eq]; exact h
  rw [List.drop_eq_getElem_cons hl]
  have e : k + 1 - k = 1 := by omega
  rw [e]
  show [s.data.toList[k]] = [s[k]]
  rw [Array.getElem_toList]; rfl
set_option maxRecDepth 100000 in
set_option maxHeartbeats 1000000 in
theorem rvprint2 (s : ByteArray) (hs : s.size ≤ 200) (w : World) :
    Calls Tryd.prog 32 #[.agg #[.int .i64 2, .int .i64 0, .string s]] w fun e w' => e = .returned (.string ⟨(vprint (2, 0, s)).toArray⟩) ∧ Below w.heap.size w w' := by
  rw [vprint_two]
  obtain ⟨l, hl⟩ : ∃ l, l = s.data.toList := ⟨_, rfl⟩
  have hll : l.length = s.size := by rw [hl, Lib.size_eq]
  have hget : ∀ i (h : i < s.size) (h' : i < l.length), l[i] = s[i] := by subst hl; exact fun i h _ => by rw [Array.getElem_toList]; rfl
  rw [← hl]
  have HLL := Lib.hid hll
  have HGET := Lib.hid hget
  clear hl hll hget
  go_enter Tryd.func32, Tryd.ntmps32
  go_wp2
  go_loop [3, 4] (fun x i => ∃ k : Nat, k ≤ s.size ∧ i = .int .i64 (k : Int) ∧ x = .string ⟨(39 :: dbl (l.take k)).toArray⟩) (fun _ i => s.size - (intOf i).toNat)
  case atStart => exact ⟨0, Nat.zero_le _, rfl, rfl⟩
  case round =>
    obtain ⟨k, hk, rfl, rfl⟩ := hrel
    have hdl := dbl_len (l.take k)
    have htl : (l.take k).length ≤ k := List.length_take_le _ _
    have hxl : (39 :: dbl (l.take k)).length ≤ 401 := by rw [List.length_cons]; omega
    obtain ⟨X, hX⟩ : ∃ X, X = 39 :: dbl (l.take k) := ⟨_, rfl⟩
    rw [← hX] at hxl ⊢
    have HX := Lib.hid hX
    clear hX hdl htl
    by_cases hlt : k < s.size
    · have hd : decide ((k : Int) < (s.size : Int)) = true := decide_eq_true (by omega)
      have hex := extract_one s k hlt
      have hg := HGET.out k hlt (by rw [HLL.out]; exact hlt)
      have hts : l.take (k + 1) = l.take k ++ [s[k]] := by
        rw [List.take_succ_eq_append_getElem (by rw [HLL.out]; exact hlt), hg]
      have HT := Lib.hid hts
      have hk0 : (0 : Int) ≤ (k : Int) := by omega
      have hk1 : (k : Int) + 1 ≤ (s.size : Int) := by omega
      clear hg hts
      by_cases hq : s[k].toNat = 39
      · have hd1 : ((s[k].toNat : Int) == 39) = true := by simp [hq]
        have hc : s[k] = 39 := UInt8.toNat_inj.1 hq
        have HC := Lib.hid hc
        have hdd : 39 :: dbl (l.take (k + 1)) = X ++ [39, 39] := by rw [HT.out, dbl_snoc, if_pos hc, HX.out]; rfl
        have HD := Lib.hid hdd
        clear hq hc hdd
        go_wp2
        refine ⟨⟨k + 1, by omega, by go_num, ?_⟩, by simp [intOf]; omega⟩
        rw [HD.out]
        show Value.string ((⟨X.toArray⟩ : ByteArray) ++ ⟨[s[k]].toArray⟩ ++ ⟨[39].toArray⟩) = _
        rw [app_str, app_str, HC.out]
        simp
      · have hd1 : ((s[k].toNat : Int) == 39) = false := beq_false_of_ne (by omega)
        have hc : s[k] ≠ 39 := fun e => hq (by rw [e]; rfl)
        have hdd : 39 :: dbl (l.take (k + 1)) = X ++ [s[k]] := by rw [HT.out, dbl_snoc, if_neg hc, HX.out]; rfl
        have HD := Lib.hid hdd
        clear hq hc hdd
        go_wp2
        refine ⟨⟨k + 1, by omega, by go_num, ?_⟩, by simp [intOf]; omega⟩
        rw [HD.out]
        show Value.string ((⟨X.toArray⟩ : ByteArray) ++ ⟨[s[k]].toArray⟩) = _
        rw [app_str]
    · have hd : decide ((k : Int) < (s.size : Int)) = false := decide_eq_false (by omega)
      have e : l.take k = l := List.take_of_length_le (by rw [HLL.out]; omega)
      have he := HX.out
      rw [e] at he
      have HE := Lib.hid he
      clear e he
      go_wp2
      go_ret
      refine ⟨?_, (Below.refl _ _).alloc (Nat.le_refl _) _⟩
      rw [HE.out]
      show Ending.returned (.string ((⟨(39 :: dbl l).toArray⟩ : ByteArray) ++ ⟨[39].toArray⟩)) = _
      rw [app_str]
      rfl
set_option maxRecDepth 100000 in
set_option maxHeartbeats 1000000 in
theorem rvprint1 (n : Int) (h0 : -9223372036854775808 ≤ n) (h1 : n ≤ 9223372036854775807) (w : World) :
    Calls Tryd.prog 32 #[.agg #[.int .i64 1, .int .i64 n, .string ⟨#[]⟩]] w fun e w' => e = .returned (.string ⟨(vprint (1, n, ⟨#[]⟩)).toArray⟩) ∧ Below w.heap.size w w' := by
  have e : vprint (1, n, ⟨#[]⟩) = Lib.itoa n := rfl
  rw [e]
  clear e
  go_enter Tryd.func32, Tryd.ntmps32
  go_wp2_with fail
  refine (rprint_any n h0 h1 _).mono ?_
  rintro e w1 ⟨rfl, hb1⟩
  go_wp2
  go_ret
  exact ⟨rfl, Below.thenB ((Below.refl _ _).alloc (Nat.le_refl _) _) (by simp) hb1⟩
theorem rvprint30 (w : World) : Calls Tryd.prog 32 #[.agg #[.int .i64 3, .int .i64 0, .string ⟨#[]⟩]] w fun e w' => e = .returned (.string ⟨[102, 97, 108, 115, 101].toArray⟩) ∧ Below w.heap.size w w' := by
  go_enter Tryd.func32, Tryd.ntmps32
  go_wp2
  go_ret
  exact ⟨rfl, (Below.refl _ _).alloc (Nat.le_refl _) _⟩
theorem rvprint31 (w : World) : Calls Tryd.prog 32 #[.agg #[.int .i64 3, .int .i64 1, .string ⟨#[]⟩]] w fun e w' => e = .returned (.string ⟨[116, 114, 117, 101].toArray⟩) ∧ Below w.heap.size w w' := by
  go_enter Tryd.func32, Tryd.ntmps32
  go_wp2
  go_ret
  exact ⟨rfl, (Below.refl _ _).alloc (Nat.le_refl _) _⟩
theorem rvprint_any (v : Val) (hv : vright v = true) (h0 : -9223372036854775808 ≤ v.2.1) (h1 : v.2.1 ≤ 9223372036854775807) (w : World) :
    Calls Tryd.prog 32 #[vagg v] w fun e w' => e = .returned (.string ⟨(vprint v).toArray⟩) ∧ Below w.heap.size w w' := by
  obtain ⟨k, n, s⟩ := v
  rcases right_kinds hv with ⟨h, h'⟩ | ⟨h, h', h''⟩ | ⟨h, h', h''⟩
  · simp only [] at h h' h0 h1; subst h h'; exact rvprint1 n h0 h1 w
  · simp only [] at h h' h''; subst h h'; exact rvprint2 s h'' w
  · simp only [] at h h' h''; subst h h''
    rcases h' with h' | h'
    · subst h'; exact rvprint30 w
    · subst h'; exact rvprint31 w
/-- What is left of a value that a text may be the print of. -/
def ptail (l : List UInt8) (v : Val) : Option Val := if vright v = true ∧ vprint v = l then some v else none
def rret (o : Option Val) : Ending := match o with
  | some v => .returned (.tuple #[vagg v, .bool true])
  | none => .returned (.tuple #[vagg zeroV, .bool false])
set_option maxRecDepth 100000 in
set_option maxHeartbeats 2000000 in
theorem rp_true  (w : World) : Calls Tryd.prog 35 #[.string ⟨#[116, 114, 117, 101]⟩] w fun e w' => e = rret (ptail [116, 114, 117, 101] (3, 1, ⟨#[]⟩)) ∧ Below w.heap.size w w' := by
  have hA : Below w.heap.size w ((w.alloc (.cells #[.int .i64 0, .int .i64 0, .string ⟨#[]⟩] 34)).alloc (.cells #[.int .i64 3, .int .i64 0, .string ⟨#[]⟩] 34)) := ((Below.refl _ _).alloc (Nat.le_refl _) _).alloc (by simp) _
  obtain ⟨R, hR⟩ : ∃ R, R = ptail [116, 114, 117, 101] (3, 1, ⟨#[]⟩) := ⟨_, rfl⟩
  rw [← hR]
  have HR := Lib.hid hR
  clear hR
  go_enter Tryd.func35, Tryd.ntmps35
  go_wp2_with fail
  refine (rright_any (3, 1, ⟨#[]⟩) _).mono ?_
  rintro e w6 ⟨rfl, hb6⟩
  have hz6 := hb6.size
  simp at hz6
  obtain ⟨hc6, hf6⟩ := bcell hb6
  have a0 : w6.cell? ⟨w.heap.size, 0, none⟩ = some (.int .i64 0) := (hc6 w.heap.size 0 (by first | (simp; done) | (simp; omega))).trans (by go_simp)
  have a1 : w6.cell? ⟨w.heap.size, 1, none⟩ = some (.int .i64 0) := (hc6 w.heap.size 1 (by first | (simp; done) | (simp; omega))).trans (by go_simp)
  have a2 : w6.cell? ⟨w.heap.size, 2, none⟩ = some (.string ⟨#[]⟩) := (hc6 w.heap.size 2 (by first | (simp; done) | (simp; omega))).trans (by go_simp)
  have g0 : w6.frozen? ⟨w.heap.size, 0, none⟩ = false := (hf6 w.heap.size 0 (by first | (simp; done) | (simp; omega))).trans (by go_simp)
  have g1 : w6.frozen? ⟨w.heap.size, 1, none⟩ = false := (hf6 w.heap.size 1 (by first | (simp; done) | (simp; omega))).trans (by go_simp)
  have g2 : w6.frozen? ⟨w.heap.size, 2, none⟩ = false := (hf6 w.heap.size 2 (by first | (simp; done) | (simp; omega))).trans (by go_simp)
  have b0 : w6.cell? ⟨w.heap.size + 1, 0, none⟩ = some (.int .i64 3) := (hc6 (w.heap.size + 1) 0 (by first | (simp; done) | (simp; omega))).trans (by go_simp)
  have b1 : w6.cell? ⟨w.heap.size + 1, 1, none⟩ = some (.int .i64 1) := (hc6 (w.heap.size + 1) 1 (by first | (simp; done) | (simp; omega))).trans (by go_simp)
  have b2 : w6.cell? ⟨w.heap.size + 1, 2, none⟩ = some (.string ⟨#[]⟩) := (hc6 (w.heap.size + 1) 2 (by first | (simp; done) | (simp; omega))).trans (by go_simp)
  clear hc6 hf6
  have hb06 : Below w.heap.size w w6 := Below.thenB (((Below.refl _ _).alloc (Nat.le_refl _) _).alloc (by simp) _) (by simp; omega) hb6
  cases hr : vright (3, 1, ⟨#[]⟩) with
  | false =>
    have h := HR.out
    unfold ptail at h
    rw [if_neg (by rw [hr]; simp)] at h
    have H := Lib.hid h
    clear h hr
    go_wp2
    simp [bodyPost, results, Tryd.results35, go_sem, a0, a1, a2]
    refine ⟨?_, ((hb06.setCell (Nat.le_refl _) _).setCell (Nat.le_refl _) _).setCell (Nat.le_refl _) _⟩
    rw [H.out]; rfl
  | true =>
    have HRR := Lib.hid hr
    clear hr
    go_wp2_with fail
    refine (rvprint_any (3, 1, ⟨#[]⟩) HRR.out (by decide) (by decide) _).mono ?_
    rintro e w7 ⟨rfl, hb7⟩
    have hz7 := hb7.size
    obtain ⟨hc7, hf7⟩ := bcell hb7
    have a0' := (hc7 w.heap.size 0 (by omega)).trans a0
    have a1' := (hc7 w.heap.size 1 (by omega)).trans a1
    have a2' := (hc7 w.heap.size 2 (by omega)).trans a2
    have g0' := (hf7 w.heap.size 0 (by omega)).trans g0
    have g1' := (hf7 w.heap.size 1 (by omega)).trans g1
    have g2' := (hf7 w.heap.size 2 (by omega)).trans g2
    have b0' := (hc7 (w.heap.size + 1) 0 (by omega)).trans b0
    have b1' := (hc7 (w.heap.size + 1) 1 (by omega)).trans b1
    have b2' := (hc7 (w.heap.size + 1) 2 (by omega)).trans b2
    clear hc7 hf7 a0 a1 a2 g0 g1 g2 b0 b1 b2
    have hb07 : Below w.heap.size w w7 := Below.thenB hb06 (by omega) hb7
    obtain ⟨PR, hPR⟩ : ∃ PR, PR = vprint (3, 1, ⟨#[]⟩) := ⟨_, rfl⟩
    rw [← hPR]
    by_cases hp : PR = [116, 114, 117, 101]
    · have hd : (PR == [116, 114, 117, 101]) = true := by rw [hp]; rfl
      have h := HR.out
      unfold ptail at h
      rw [if_pos ⟨HRR.out, hPR.symm.trans hp⟩] at h
      have H := Lib.hid h
      clear h hp hPR
      go_wp2
      simp [bodyPost, results, Tryd.results35, go_sem, a0', a1', a2']
      refine ⟨?_, ((hb07.setCell (Nat.le_refl _) _).setCell (Nat.le_refl _) _).setCell (Nat.le_refl _) _⟩
      rw [H.out]; rfl
    · have hd : (PR == [116, 114, 117, 101]) = false := by exact beq_false_of_ne hp
      have h := HR.out
      unfold ptail at h
      rw [if_neg (fun h' => hp (hPR.trans h'.2))] at h
      have H := Lib.hid h
      clear h hp hPR
      go_wp2
      simp [bodyPost, results, Tryd.results35, go_sem, a0', a1', a2']
      refine ⟨?_, ((hb07.setCell (Nat.le_refl _) _).setCell (Nat.le_refl _) _).setCell (Nat.le_refl _) _⟩
      rw [H.out]; rfl
set_option maxRecDepth 100000 in
set_option maxHeartbeats 2000000 in
theorem rp_false  (w : World) : Calls Tryd.prog 35 #[.string ⟨#[102, 97, 108, 115, 101]⟩] w fun e w' => e = rret (ptail [102, 97, 108, 115, 101] (3, 0, ⟨#[]⟩)) ∧ Below w.heap.size w w' := by
  have hA : Below w.heap.size w ((w.alloc (.cells #[.int .i64 0, .int .i64 0, .string ⟨#[]⟩] 34)).alloc (.cells #[.int .i64 3, .int .i64 0, .string ⟨#[]⟩] 34)) := ((Below.refl _ _).alloc (Nat.le_refl _) _).alloc (by simp) _
  obtain ⟨R, hR⟩ : ∃ R, R = ptail [102, 97, 108, 115, 101] (3, 0, ⟨#[]⟩) := ⟨_, rfl⟩
  rw [← hR]
  have HR := Lib.hid hR
  clear hR
  go_enter Tryd.func35, Tryd.ntmps35
  go_wp2_with fail
  refine (rright_any (3, 0, ⟨#[]⟩) _).mono ?_
  rintro e w6 ⟨rfl, hb6⟩
  have hz6 := hb6.size
  simp at hz6
  obtain ⟨hc6, hf6⟩ := bcell hb6
  have a0 : w6.cell? ⟨w.heap.size, 0, none⟩ = some (.int .i64 0) := (hc6 w.heap.size 0 (by first | (simp; done) | (simp; omega))).trans (by go_simp)
  have a1 : w6.cell? ⟨w.heap.size, 1, none⟩ = some (.int .i64 0) := (hc6 w.heap.size 1 (by first | (simp; done) | (simp; omega))).trans (by go_simp)
  have a2 : w6.cell? ⟨w.heap.size, 2, none⟩ = some (.string ⟨#[]⟩) := (hc6 w.heap.size 2 (by first | (simp; done) | (simp; omega))).trans (by go_simp)
  have g0 : w6.frozen? ⟨w.heap.size, 0, none⟩ = false := (hf6 w.heap.size 0 (by first | (simp; done) | (simp; omega))).trans (by go_simp)
  have g1 : w6.frozen? ⟨w.heap.size, 1, none⟩ = false := (hf6 w.heap.size 1 (by first | (simp; done) | (simp; omega))).trans (by go_simp)
  have g2 : w6.frozen? ⟨w.heap.size, 2, none⟩ = false := (hf6 w.heap.size 2 (by first | (simp; done) | (simp; omega))).trans (by go_simp)
  have b0 : w6.cell? ⟨w.heap.size + 1, 0, none⟩ = some (.int .i64 3) := (hc6 (w.heap.size + 1) 0 (by first | (simp; done) | (simp; omega))).trans (by go_simp)
  have b1 : w6.cell? ⟨w.heap.size + 1, 1, none⟩ = some (.int .i64 0) := (hc6 (w.heap.size + 1) 1 (by first | (simp; done) | (simp; omega))).trans (by go_simp)
  have b2 : w6.cell? ⟨w.heap.size + 1, 2, none⟩ = some (.string ⟨#[]⟩) := (hc6 (w.heap.size + 1) 2 (by first | (simp; done) | (simp; omega))).trans (by go_simp)
  clear hc6 hf6
  have hb06 : Below w.heap.size w w6 := Below.thenB (((Below.refl _ _).alloc (Nat.le_refl _) _).alloc (by simp) _) (by simp; omega) hb6
  cases hr : vright (3, 0, ⟨#[]⟩) with
  | false =>
    have h := HR.out
    unfold ptail at h
    rw [if_neg (by rw [hr]; simp)] at h
    have H := Lib.hid h
    clear h hr
    go_wp2
    simp [bodyPost, results, Tryd.results35, go_sem, a0, a1, a2]
    refine ⟨?_, ((hb06.setCell (Nat.le_refl _) _).setCell (Nat.le_refl _) _).setCell (Nat.le_refl _) _⟩
    rw [H.out]; rfl
  | true =>
    have HRR := Lib.hid hr
    clear hr
    go_wp2_with fail
    refine (rvprint_any (3, 0, ⟨#[]⟩) HRR.out (by decide) (by decide) _).mono ?_
    rintro e w7 ⟨rfl, hb7⟩
    have hz7 := hb7.size
    obtain ⟨hc7, hf7⟩ := bcell hb7
    have a0' := (hc7 w.heap.size 0 (by omega)).trans a0
    have a1' := (hc7 w.heap.size 1 (by omega)).trans a1
    have a2' := (hc7 w.heap.size 2 (by omega)).trans a2
    have g0' := (hf7 w.heap.size 0 (by omega)).trans g0
    have g1' := (hf7 w.heap.size 1 (by omega)).trans g1
    have g2' := (hf7 w.heap.size 2 (by omega)).trans g2
    have b0' := (hc7 (w.heap.size + 1) 0 (by omega)).trans b0
    have b1' := (hc7 (w.heap.size + 1) 1 (by omega)).trans b1
    have b2' := (hc7 (w.heap.size + 1) 2 (by omega)).trans b2
    clear hc7 hf7 a0 a1 a2 g0 g1 g2 b0 b1 b2
    have hb07 : Below w.heap.size w w7 := Below.thenB hb06 (by omega) hb7
    obtain ⟨PR, hPR⟩ : ∃ PR, PR = vprint (3, 0, ⟨#[]⟩) := ⟨_, rfl⟩
    rw [← hPR]
    by_cases hp : PR = [102, 97, 108, 115, 101]
    · have hd : (PR == [102, 97, 108, 115, 101]) = true := by rw [hp]; rfl
      have h := HR.out
      unfold ptail at h
      rw [if_pos ⟨HRR.out, hPR.symm.trans hp⟩] at h
      have H := Lib.hid h
      clear h hp hPR
      go_wp2
      simp [bodyPost, results, Tryd.results35, go_sem, a0', a1', a2']
      refine ⟨?_, ((hb07.setCell (Nat.le_refl _) _).setCell (Nat.le_refl _) _).setCell (Nat.le_refl _) _⟩
      rw [H.out]; rfl
    · have hd : (PR == [102, 97, 108, 115, 101]) = false := by exact beq_false_of_ne hp
      have h := HR.out
      unfold ptail at h
      rw [if_neg (fun h' => hp (hPR.trans h'.2))] at h
      have H := Lib.hid h
      clear h hp hPR
      go_wp2
      simp [bodyPost, results, Tryd.results35, go_sem, a0', a1', a2']
      refine ⟨?_, ((hb07.setCell (Nat.le_refl _) _).setCell (Nat.le_refl _) _).setCell (Nat.le_refl _) _⟩
      rw [H.out]; rfl
set_option maxRecDepth 100000 in
set_option maxHeartbeats 2000000 in
theorem rp_text (s : ByteArray) (hs : s.size ≤ 1000) (h1 : ¬ s.data.toList = [116, 114, 117, 101]) (h2 : ¬ s.data.toList = [102, 97, 108, 115, 101]) (hp0 : 0 < s.size) (hq : s[0].toNat = 39) (w : World) : Calls Tryd.prog 35 #[.string s] w fun e w' => e = rret (ptail s.data.toList (scanV s.data.toList)) ∧ Below w.heap.size w w' := by
  have d1 : (s.toList == [116, 114, 117, 101]) = false := by rw [ByteArray.toList_eq]; exact beq_false_of_ne h1
  have d2 : (s.toList == [102, 97, 108, 115, 101]) = false := by rw [ByteArray.toList_eq]; exact beq_false_of_ne h2
  clear h1 h2
  have d3 : ((s[0].toNat : Int) == 39) = true := by simp [hq]
  clear hq
  have hA : Below w.heap.size w ((w.alloc (.cells #[.int .i64 0, .int .i64 0, .string ⟨#[]⟩] 34)).alloc (.cells #[.int .i64 3, .int .i64 0, .string ⟨#[]⟩] 34)) := ((Below.refl _ _).alloc (Nat.le_refl _) _).alloc (by simp) _
  obtain ⟨R, hR⟩ : ∃ R, R = ptail s.data.toList (scanV s.data.toList) := ⟨_, rfl⟩
  rw [← hR]
  have HR := Lib.hid hR
  clear hR
  go_enter Tryd.func35, Tryd.ntmps35
  obtain ⟨l, hl⟩ : ∃ l, l = s.data.toList := ⟨_, rfl⟩
  have hll : l.length = s.size := by rw [hl, Lib.size_eq]
  have hget : ∀ i (h : i < s.size) (h' : i < l.length), l[i] = s[i] := by subst hl; exact fun i h _ => by rw [Array.getElem_toList]; rfl
  have hRR := HR.out
  rw [← hl] at hRR
  obtain ⟨ST, hST⟩ : ∃ ST : ByteArray, ST = ⟨(scan (l.drop 1)).toArray⟩ := ⟨_, rfl⟩
  have hsv : scanV l = (2, 0, ST) := by rw [hST]; rfl
  rw [hsv, hl] at hRR
  have HR := Lib.hid hRR
  have HLL := Lib.hid hll
  have HGET := Lib.hid hget
  have HST := Lib.hid hST
  clear hRR hll hget hST hsv hl
  obtain ⟨i0, hi, hz0, hz1, hz2⟩ := info_parts info_u8
  go_wp2
  obtain ⟨W0, hW0⟩ : ∃ W0, W0 = ((w.alloc (.cells #[.int .i64 0, .int .i64 0, .string ⟨#[]⟩] 34)).alloc (.cells #[.int .i64 2, .int .i64 0, .string ⟨#[]⟩] 34)) := ⟨_, rfl⟩
  have hWs : W0.heap.size = w.heap.size + 2 := by rw [hW0]; simp
  have hWb : Below w.heap.size w W0 := by rw [hW0]; exact ((Below.refl _ _).alloc (Nat.le_refl _) _).alloc (by simp) _
  have y0 : W0.cell? ⟨w.heap.size, 0, none⟩ = some (.int .i64 0) := by rw [hW0]; go_simp
  have y1 : W0.cell? ⟨w.heap.size, 1, none⟩ = some (.int .i64 0) := by rw [hW0]; go_simp
  have y2 : W0.cell? ⟨w.heap.size, 2, none⟩ = some (.string ⟨#[]⟩) := by rw [hW0]; go_simp
  have x0 : W0.frozen? ⟨w.heap.size, 0, none⟩ = false := by rw [hW0]; go_simp
  have x1 : W0.frozen? ⟨w.heap.size, 1, none⟩ = false := by rw [hW0]; go_simp
  have x2 : W0.frozen? ⟨w.heap.size, 2, none⟩ = false := by rw [hW0]; go_simp
  have y3 : W0.cell? ⟨w.heap.size + 1, 0, none⟩ = some (.int .i64 2) := by rw [hW0]; go_simp
  have y4 : W0.cell? ⟨w.heap.size + 1, 1, none⟩ = some (.int .i64 0) := by rw [hW0]; go_simp
  have y5 : W0.cell? ⟨w.heap.size + 1, 2, none⟩ = some (.string ⟨#[]⟩) := by rw [hW0]; go_simp
  have x3 : W0.frozen? ⟨w.heap.size + 1, 2, none⟩ = false := by rw [hW0]; go_simp
  rw [← hW0]
  have HWs := Lib.hid hWs
  clear hW0 hWs
  go_loopw [5, 6] (fun x iv wr => ∃ (j : Nat) (acc : List UInt8), 1 ≤ j ∧ j ≤ s.size ∧ iv = .int .i64 (j : Int) ∧ Grown8 W0 W0.heap.size (.slice none 0 0) acc x wr ∧ acc.length ≤ j ∧ Hid (acc ++ scan (l.drop j) = scan (l.drop 1))) (fun _ iv _ => s.size - (intOf iv).toNat)
  case atStart => exact ⟨1, [], Nat.le_refl _, hp0, rfl, Grown8.refl (World.ownsRow_nil _ _ _ _), by simp, by simp [Hid]⟩
  case round =>
  obtain ⟨j, acc, hj1, hjs, rfl, hg, hal, hac⟩ := hrel
  have hszr := hg.2.1.size
  have hbr : Below W0.heap.size W0 wr := hg.2.1.below (Nat.le_refl _) (fun j _ hs => by simp [Value.ownBlock] at hs)
  have hown1 := hg.1
  by_cases hlt : j + 1 < s.size
  · have hd : decide ((j : Int) + 1 < (s.size : Int)) = true := decide_eq_true (by omega)
    have hjl : j < s.size := by omega
    have hge := HGET.out j hjl (by rw [HLL.out]; exact hjl)
    obtain ⟨d, r, hdr⟩ : ∃ d r, l.drop (j + 1) = d :: r ∧ l.drop (j + 2) = r := ⟨l[j + 1]'(by rw [HLL.out]; exact hlt), l.drop (j + 2), List.drop_eq_getElem_cons (by rw [HLL.out]; exact hlt), rfl⟩
    have hdj : l.drop j = s[j] :: d :: r := by rw [List.drop_eq_getElem_cons (by rw [HLL.out]; exact hjl), hge, hdr.1]
    have hsc : scan (l.drop j) = if s[j] = 39 then s[j] :: scan (l.drop (j + 2)) else s[j] :: scan (l.drop (j + 1)) := by rw [hdj, hdr.1, hdr.2]; rfl
    have hA2 : (acc ++ [s[j]]) ++ (if s[j] = 39 then scan (l.drop (j + 2)) else scan (l.drop (j + 1))) = scan (l.drop 1) := by
      rw [← hac.out, hsc]
      split <;> simp
    have HA2 := Lib.hid hA2
    obtain ⟨cz, hcz⟩ : ∃ cz : Int, cz = (s[j].toNat : Int) := ⟨_, rfl⟩
    clear hge hdr hdj hsc hA2 hcz cz hac
    have hc256 : (s[j].toNat : Int) < 256 := by have := s[j].toNat_lt; omega
    have hj0 : (0 : Int) ≤ (j : Int) := by omega
    go_wp2_with (at_builtin; refine wpList_append_lies _ rfl (.tmp 44) (.tmp 48) 74 rfl W0.heap.size 5 i0 (.int .u8 0) 1 1 Tryd.underlying74 hi hz0 hz1 hz2 rfl (by decide) _ acc.length (u8s acc) rfl (hown1.alloc _) ⟨wr.heap.size, 0, none⟩ 1 1 [.int .u8 (s[j].toNat : Int)] rfl rfl (cell_one_new _ _ _) ?c1 (by decide) ?c2 ?c3 ?c4 (wr.heap.size + 1) ?c5 ?_)
    case c1 => simp [Value.oneCell']
    case c2 => unfold maxLen; omega
    case c3 => omega
    case c4 => simp; omega
    case c5 => simp
    intro g cap w1 hn1 hgr hat hlt1
    have hG := Grown8.trans hg (grown_append (news := [s[j]]) hn1 hgr hat)
    clear hn1 hgr hat hown1
    by_cases hq : s[j].toNat = 39
    · have hdq : ((s[j].toNat : Int) == 39) = true := by simp [hq]
      have h := HA2.out
      rw [if_pos (UInt8.toNat_inj.1 hq)] at h
      have H := Lib.hid h
      clear h hq
      go_wp2
      go_roundw
      case rel => exact ⟨j + 2, acc ++ [s[j]], by omega, by omega, by go_num, hG, by simp; omega, H⟩
      case measure => simp [intOf]; omega
    · have hdq : ((s[j].toNat : Int) == 39) = false := beq_false_of_ne (by omega)
      have h := HA2.out
      rw [if_neg (fun e => hq (by rw [e]; rfl))] at h
      have H := Lib.hid h
      clear h hq
      go_wp2
      go_roundw
      case rel => exact ⟨j + 1, acc ++ [s[j]], by omega, by omega, by go_num, hG, by simp; omega, H⟩
      case measure => simp [intOf]; omega
  have hd : decide ((j : Int) + 1 < (s.size : Int)) = false := decide_eq_false (by omega)
  have hsn : scan (l.drop j) = [] := by
    have : (l.drop j).length ≤ 1 := by rw [List.length_drop, HLL.out]; omega
    match hdd : l.drop j, this with
    | [], _ => rfl
    | [_], _ => rfl
  have hacc : acc = scan (l.drop 1) := by rw [← hac.out, hsn, List.append_nil]
  have hcv := conv_own hown1
  have hcs : (⟨acc.toArray⟩ : ByteArray) = ST := by rw [HST.out, hacc]
  rw [hcs] at hcv
  have hws := HWs.out
  obtain ⟨hcr, hfr⟩ := bcell hbr
  have q0 := (hcr w.heap.size 0 (by omega)).trans y0
  have q1 := (hcr w.heap.size 1 (by omega)).trans y1
  have q2 := (hcr w.heap.size 2 (by omega)).trans y2
  have u0 := (hfr w.heap.size 0 (by omega)).trans x0
  have u1 := (hfr w.heap.size 1 (by omega)).trans x1
  have u2 := (hfr w.heap.size 2 (by omega)).trans x2
  have q3 := (hcr (w.heap.size + 1) 0 (by omega)).trans y3
  have q4 := (hcr (w.heap.size + 1) 1 (by omega)).trans y4
  have q5 := (hcr (w.heap.size + 1) 2 (by omega)).trans y5
  have u3 := (hfr (w.heap.size + 1) 2 (by omega)).trans x3
  have hbw : Below w.heap.size w wr := hWb.trans (hbr.mono (by omega))
  have hsw : w.heap.size + 2 ≤ wr.heap.size := by omega
  clear hcr hfr y0 y1 y2 y3 y4 y5 x0 x1 x2 x3 hsn hacc hcs hac hown1 hg hws hA
  go_wp2_with fail
  refine (rright_any (2, 0, ST) _).mono ?_
  rintro e w6 ⟨rfl, hb6⟩
  have hz6 := hb6.size
  simp at hz6
  obtain ⟨hc6, hf6⟩ := bcell hb6
  have a0 : w6.cell? ⟨w.heap.size, 0, none⟩ = some (.int .i64 0) := (hc6 w.heap.size 0 (by first | (simp; done) | (simp; omega))).trans (by go_simp)
  have a1 : w6.cell? ⟨w.heap.size, 1, none⟩ = some (.int .i64 0) := (hc6 w.heap.size 1 (by first | (simp; done) | (simp; omega))).trans (by go_simp)
  have a2 : w6.cell? ⟨w.heap.size, 2, none⟩ = some (.string ⟨#[]⟩) := (hc6 w.heap.size 2 (by first | (simp; done) | (simp; omega))).trans (by go_simp)
  have g0 : w6.frozen? ⟨w.heap.size, 0, none⟩ = false := (hf6 w.heap.size 0 (by first | (simp; done) | (simp; omega))).trans (by go_simp)
  have g1 : w6.frozen? ⟨w.heap.size, 1, none⟩ = false := (hf6 w.heap.size 1 (by first | (simp; done) | (simp; omega))).trans (by go_simp)
  have g2 : w6.frozen? ⟨w.heap.size, 2, none⟩ = false := (hf6 w.heap.size 2 (by first | (simp; done) | (simp; omega))).trans (by go_simp)
  have b0 : w6.cell? ⟨w.heap.size + 1, 0, none⟩ = some (.int .i64 2) := (hc6 (w.heap.size + 1) 0 (by first | (simp; done) | (simp; omega))).trans (by go_simp)
  have b1 : w6.cell? ⟨w.heap.size + 1, 1, none⟩ = some (.int .i64 0) := (hc6 (w.heap.size + 1) 1 (by first | (simp; done) | (simp; omega))).trans (by go_simp)
  have b2 : w6.cell? ⟨w.heap.size + 1, 2, none⟩ = some (.string ST) := (hc6 (w.heap.size + 1) 2 (by first | (simp; done) | (simp; omega))).trans (by go_simp)
  clear hc6 hf6
  have hb06 : Below w.heap.size w w6 := Below.thenB (hbw.setCell (by show w.heap.size ≤ w.heap.size + 1; omega) _) (by simp; omega) hb6
  cases hr : vright (2, 0, ST) with
  | false =>
    have h := HR.out
    unfold ptail at h
    rw [if_neg (by rw [hr]; simp)] at h
    have H := Lib.hid h
    clear h hr
    go_wp2
    simp [bodyPost, results, Tryd.results35, go_sem, a0, a1, a2]
    refine ⟨?_, ((hb06.setCell (Nat.le_refl _) _).setCell (Nat.le_refl _) _).setCell (Nat.le_refl _) _⟩
    rw [H.out]; rfl
  | true =>
    have HRR := Lib.hid hr
    clear hr
    go_wp2_with fail
    refine (rvprint_any (2, 0, ST) HRR.out (by show (-9223372036854775808 : Int) ≤ 0; decide) (by show (0 : Int) ≤ 9223372036854775807; decide) _).mono ?_
    rintro e w7 ⟨rfl, hb7⟩
    have hz7 := hb7.size
    obtain ⟨hc7, hf7⟩ := bcell hb7
    have a0' := (hc7 w.heap.size 0 (by omega)).trans a0
    have a1' := (hc7 w.heap.size 1 (by omega)).trans a1
    have a2' := (hc7 w.heap.size 2 (by omega)).trans a2
    have g0' := (hf7 w.heap.size 0 (by omega)).trans g0
    have g1' := (hf7 w.heap.size 1 (by omega)).trans g1
    have g2' := (hf7 w.heap.size 2 (by omega)).trans g2
    have b0' := (hc7 (w.heap.size + 1) 0 (by omega)).trans b0
    have b1' := (hc7 (w.heap.size + 1) 1 (by omega)).trans b1
    have b2' := (hc7 (w.heap.size + 1) 2 (by omega)).trans b2
    clear hc7 hf7 a0 a1 a2 g0 g1 g2 b0 b1 b2
    have hb07 : Below w.heap.size w w7 := Below.thenB hb06 (by omega) hb7
    obtain ⟨PR, hPR⟩ : ∃ PR, PR = vprint (2, 0, ST) := ⟨_, rfl⟩
    rw [← hPR]
    by_cases hp : PR = s.data.toList
    · have hd : (PR == s.toList) = true := by rw [ByteArray.toList_eq, hp]; simp
      have h := HR.out
      unfold ptail at h
      rw [if_pos ⟨HRR.out, hPR.symm.trans hp⟩] at h
      have H := Lib.hid h
      clear h hp hPR
      go_wp2
      simp [bodyPost, results, Tryd.results35, go_sem, a0', a1', a2']
      refine ⟨?_, ((hb07.setCell (Nat.le_refl _) _).setCell (Nat.le_refl _) _).setCell (Nat.le_refl _) _⟩
      rw [H.out]; rfl
    · have hd : (PR == s.toList) = false := by rw [ByteArray.toList_eq]; exact beq_false_of_ne hp
      have h := HR.out
      unfold ptail at h
      rw [if_neg (fun h' => hp (hPR.trans h'.2))] at h
      have H := Lib.hid h
      clear h hp hPR
      go_wp2
      simp [bodyPost, results, Tryd.results35, go_sem, a0', a1', a2']
      refine ⟨?_, ((hb07.setCell (Nat.le_refl _) _).setCell (Nat.le_refl _) _).setCell (Nat.le_refl _) _⟩
      rw [H.out]; rfl
set_option maxRecDepth 100000 in
set_option maxHeartbeats 2000000 in
theorem rp_num (s : ByteArray) (hs : s.size ≤ 1000) (h1 : ¬ s.data.toList = [116, 114, 117, 101]) (h2 : ¬ s.data.toList = [102, 97, 108, 115, 101]) (hq : ∀ h : 0 < s.size, s[0].toNat ≠ 39) (V : Int) (hV : parV s.data.toList = some V) (hin : inB V = true) (w : World) : Calls Tryd.prog 35 #[.string s] w fun e w' => e = rret (ptail s.data.toList (1, V, ⟨#[]⟩)) ∧ Below w.heap.size w w' := by
  have d1 : (s.toList == [116, 114, 117, 101]) = false := by rw [ByteArray.toList_eq]; exact beq_false_of_ne h1
  have d2 : (s.toList == [102, 97, 108, 115, 101]) = false := by rw [ByteArray.toList_eq]; exact beq_false_of_ne h2
  clear h1 h2
  have hA : Below w.heap.size w ((w.alloc (.cells #[.int .i64 0, .int .i64 0, .string ⟨#[]⟩] 34)).alloc (.cells #[.int .i64 3, .int .i64 0, .string ⟨#[]⟩] 34)) := ((Below.refl _ _).alloc (Nat.le_refl _) _).alloc (by simp) _
  obtain ⟨R, hR⟩ : ∃ R, R = ptail s.data.toList (1, V, ⟨#[]⟩) := ⟨_, rfl⟩
  rw [← hR]
  have HR := Lib.hid hR
  clear hR
  by_cases hp0 : 0 < s.size
  · have d3 : ((s[0].toNat : Int) == 39) = false := beq_false_of_ne (by have := hq hp0; omega)
    have d4 : decide (0 < s.size) = true := decide_eq_true hp0
    clear hq
    go_enter Tryd.func35, Tryd.ntmps35
    obtain ⟨P, hP⟩ : ∃ P, P = parV s.data.toList := ⟨_, rfl⟩
    have HP := Lib.hid hP
    clear hP
    have hbV : -9223372036854775808 ≤ V ∧ V ≤ 9223372036854775807 := by unfold inB at hin; exact of_decide_eq_true hin
    have hpn : pN P = V := by rw [HP.out, hV]; unfold pN okN; simp only []; rw [if_pos hbV]
    have hpe : pE P = 0 := by rw [HP.out, hV]; unfold pE; simp only []; rw [er_in, hin]; rfl
    have HPN := Lib.hid hpn
    have HPE := Lib.hid hpe
    clear hpn hpe hV hin
    go_wp2_with fail
    refine (rparse_any s hs _).mono ?_
    rintro e w1 ⟨rfl, hb1⟩
    rw [← HP.out, HPN.out, HPE.out]
    have hz1 := hb1.size
    simp at hz1
    obtain ⟨hc1, hf1⟩ := bcell hb1
    have q0 : w1.cell? ⟨w.heap.size, 0, none⟩ = some (.int .i64 0) := (hc1 w.heap.size 0 (by simp; omega)).trans (by go_simp)
    have q1 : w1.cell? ⟨w.heap.size, 1, none⟩ = some (.int .i64 0) := (hc1 w.heap.size 1 (by simp; omega)).trans (by go_simp)
    have q2 : w1.cell? ⟨w.heap.size, 2, none⟩ = some (.string ⟨#[]⟩) := (hc1 w.heap.size 2 (by simp; omega)).trans (by go_simp)
    have u0 : w1.frozen? ⟨w.heap.size, 0, none⟩ = false := (hf1 w.heap.size 0 (by simp; omega)).trans (by go_simp)
    have u1 : w1.frozen? ⟨w.heap.size, 1, none⟩ = false := (hf1 w.heap.size 1 (by simp; omega)).trans (by go_simp)
    have u2 : w1.frozen? ⟨w.heap.size, 2, none⟩ = false := (hf1 w.heap.size 2 (by simp; omega)).trans (by go_simp)
    have q3 : w1.cell? ⟨w.heap.size + 1, 0, none⟩ = some (.int .i64 3) := (hc1 (w.heap.size + 1) 0 (by simp)).trans (by go_simp)
    have q4 : w1.cell? ⟨w.heap.size + 1, 1, none⟩ = some (.int .i64 0) := (hc1 (w.heap.size + 1) 1 (by simp)).trans (by go_simp)
    have q5 : w1.cell? ⟨w.heap.size + 1, 2, none⟩ = some (.string ⟨#[]⟩) := (hc1 (w.heap.size + 1) 2 (by simp)).trans (by go_simp)
    have u3 : w1.frozen? ⟨w.heap.size + 1, 0, none⟩ = false := (hf1 (w.heap.size + 1) 0 (by simp)).trans (by go_simp)
    have u4 : w1.frozen? ⟨w.heap.size + 1, 1, none⟩ = false := (hf1 (w.heap.size + 1) 1 (by simp)).trans (by go_simp)
    have u5 : w1.frozen? ⟨w.heap.size + 1, 2, none⟩ = false := (hf1 (w.heap.size + 1) 2 (by simp)).trans (by go_simp)
    clear hc1 hf1
    have hbw : Below w.heap.size w w1 := Below.thenB hA (by simp; omega) hb1
    go_wp2_with fail
    refine (rright_any (1, V, ⟨#[]⟩) _).mono ?_
    rintro e w6 ⟨rfl, hb6⟩
    have hz6 := hb6.size
    simp at hz6
    obtain ⟨hc6, hf6⟩ := bcell hb6
    have a0 : w6.cell? ⟨w.heap.size, 0, none⟩ = some (.int .i64 0) := (hc6 w.heap.size 0 (by first | (simp; done) | (simp; omega))).trans (by go_simp)
    have a1 : w6.cell? ⟨w.heap.size, 1, none⟩ = some (.int .i64 0) := (hc6 w.heap.size 1 (by first | (simp; done) | (simp; omega))).trans (by go_simp)
    have a2 : w6.cell? ⟨w.heap.size, 2, none⟩ = some (.string ⟨#[]⟩) := (hc6 w.heap.size 2 (by first | (simp; done) | (simp; omega))).trans (by go_simp)
    have g0 : w6.frozen? ⟨w.heap.size, 0, none⟩ = false := (hf6 w.heap.size 0 (by first | (simp; done) | (simp; omega))).trans (by go_simp)
    have g1 : w6.frozen? ⟨w.heap.size, 1, none⟩ = false := (hf6 w.heap.size 1 (by first | (simp; done) | (simp; omega))).trans (by go_simp)
    have g2 : w6.frozen? ⟨w.heap.size, 2, none⟩ = false := (hf6 w.heap.size 2 (by first | (simp; done) | (simp; omega))).trans (by go_simp)
    have b0 : w6.cell? ⟨w.heap.size + 1, 0, none⟩ = some (.int .i64 1) := (hc6 (w.heap.size + 1) 0 (by first | (simp; done) | (simp; omega))).trans (by go_simp)
    have b1 : w6.cell? ⟨w.heap.size + 1, 1, none⟩ = some (.int .i64 V) := (hc6 (w.heap.size + 1) 1 (by first | (simp; done) | (simp; omega))).trans (by go_simp)
    have b2 : w6.cell? ⟨w.heap.size + 1, 2, none⟩ = some (.string ⟨#[]⟩) := (hc6 (w.heap.size + 1) 2 (by first | (simp; done) | (simp; omega))).trans (by go_simp)
    clear hc6 hf6
    have hb06 : Below w.heap.size w w6 := Below.thenB (((hbw.setCell (by show w.heap.size ≤ w.heap.size + 1; omega) _).setCell (by show w.heap.size ≤ w.heap.size + 1; omega) _).setCell (by show w.heap.size ≤ w.heap.size + 1; omega) _) (by simp; omega) hb6
    cases hr : vright (1, V, ⟨#[]⟩) with
    | false =>
      have h := HR.out
      unfold ptail at h
      rw [if_neg (by rw [hr]; simp)] at h
      have H := Lib.hid h
      clear h hr
      go_wp2
      simp [bodyPost, results, Tryd.results35, go_sem, a0, a1, a2]
      refine ⟨?_, ((hb06.setCell (Nat.le_refl _) _).setCell (Nat.le_refl _) _).setCell (Nat.le_refl _) _⟩
      rw [H.out]; rfl
    | true =>
      have HRR := Lib.hid hr
      clear hr
      go_wp2_with fail
      refine (rvprint_any (1, V, ⟨#[]⟩) HRR.out hbV.1 hbV.2 _).mono ?_
      rintro e w7 ⟨rfl, hb7⟩
      have hz7 := hb7.size
      obtain ⟨hc7, hf7⟩ := bcell hb7
      have a0' := (hc7 w.heap.size 0 (by omega)).trans a0
      have a1' := (hc7 w.heap.size 1 (by omega)).trans a1
      have a2' := (hc7 w.heap.size 2 (by omega)).trans a2
      have g0' := (hf7 w.heap.size 0 (by omega)).trans g0
      have g1' := (hf7 w.heap.size 1 (by omega)).trans g1
      have g2' := (hf7 w.heap.size 2 (by omega)).trans g2
      have b0' := (hc7 (w.heap.size + 1) 0 (by omega)).trans b0
      have b1' := (hc7 (w.heap.size + 1) 1 (by omega)).trans b1
      have b2' := (hc7 (w.heap.size + 1) 2 (by omega)).trans b2
      clear hc7 hf7 a0 a1 a2 g0 g1 g2 b0 b1 b2
      have hb07 : Below w.heap.size w w7 := Below.thenB hb06 (by omega) hb7
      obtain ⟨PR, hPR⟩ : ∃ PR, PR = vprint (1, V, ⟨#[]⟩) := ⟨_, rfl⟩
      rw [← hPR]
      by_cases hp : PR = s.data.toList
      · have hd : (PR == s.toList) = true := by rw [ByteArray.toList_eq, hp]; simp
        have h := HR.out
        unfold ptail at h
        rw [if_pos ⟨HRR.out, hPR.symm.trans hp⟩] at h
        have H := Lib.hid h
        clear h hp hPR
        go_wp2
        simp [bodyPost, results, Tryd.results35, go_sem, a0', a1', a2']
        refine ⟨?_, ((hb07.setCell (Nat.le_refl _) _).setCell (Nat.le_refl _) _).setCell (Nat.le_refl _) _⟩
        rw [H.out]; rfl
      · have hd : (PR == s.toList) = false := by rw [ByteArray.toList_eq]; exact beq_false_of_ne hp
        have h := HR.out
        unfold ptail at h
        rw [if_neg (fun h' => hp (hPR.trans h'.2))] at h
        have H := Lib.hid h
        clear h hp hPR
        go_wp2
        simp [bodyPost, results, Tryd.results35, go_sem, a0', a1', a2']
        refine ⟨?_, ((hb07.setCell (Nat.le_refl _) _).setCell (Nat.le_refl _) _).setCell (Nat.le_refl _) _⟩
        rw [H.out]; rfl
  · have d4 : decide (0 < s.size) = false := decide_eq_false hp0
    clear hq
    go_enter Tryd.func35, Tryd.ntmps35
    obtain ⟨P, hP⟩ : ∃ P, P = parV s.data.toList := ⟨_, rfl⟩
    have HP := Lib.hid hP
    clear hP
    have hbV : -9223372036854775808 ≤ V ∧ V ≤ 9223372036854775807 := by unfold inB at hin; exact of_decide_eq_true hin
    have hpn : pN P = V := by rw [HP.out, hV]; unfold pN okN; simp only []; rw [if_pos hbV]
    have hpe : pE P = 0 := by rw [HP.out, hV]; unfold pE; simp only []; rw [er_in, hin]; rfl
    have HPN := Lib.hid hpn
    have HPE := Lib.hid hpe
    clear hpn hpe hV hin
    go_wp2_with fail
    refine (rparse_any s hs _).mono ?_
    rintro e w1 ⟨rfl, hb1⟩
    rw [← HP.out, HPN.out, HPE.out]
    have hz1 := hb1.size
    simp at hz1
    obtain ⟨hc1, hf1⟩ := bcell hb1
    have q0 : w1.cell? ⟨w.heap.size, 0, none⟩ = some (.int .i64 0) := (hc1 w.heap.size 0 (by simp; omega)).trans (by go_simp)
    have q1 : w1.cell? ⟨w.heap.size, 1, none⟩ = some (.int .i64 0) := (hc1 w.heap.size 1 (by simp; omega)).trans (by go_simp)
    have q2 : w1.cell? ⟨w.heap.size, 2, none⟩ = some (.string ⟨#[]⟩) := (hc1 w.heap.size 2 (by simp; omega)).trans (by go_simp)
    have u0 : w1.frozen? ⟨w.heap.size, 0, none⟩ = false := (hf1 w.heap.size 0 (by simp; omega)).trans (by go_simp)
    have u1 : w1.frozen? ⟨w.heap.size, 1, none⟩ = false := (hf1 w.heap.size 1 (by simp; omega)).trans (by go_simp)
    have u2 : w1.frozen? ⟨w.heap.size, 2, none⟩ = false := (hf1 w.heap.size 2 (by simp; omega)).trans (by go_simp)
    have q3 : w1.cell? ⟨w.heap.size + 1, 0, none⟩ = some (.int .i64 3) := (hc1 (w.heap.size + 1) 0 (by simp)).trans (by go_simp)
    have q4 : w1.cell? ⟨w.heap.size + 1, 1, none⟩ = some (.int .i64 0) := (hc1 (w.heap.size + 1) 1 (by simp)).trans (by go_simp)
    have q5 : w1.cell? ⟨w.heap.size + 1, 2, none⟩ = some (.string ⟨#[]⟩) := (hc1 (w.heap.size + 1) 2 (by simp)).trans (by go_simp)
    have u3 : w1.frozen? ⟨w.heap.size + 1, 0, none⟩ = false := (hf1 (w.heap.size + 1) 0 (by simp)).trans (by go_simp)
    have u4 : w1.frozen? ⟨w.heap.size + 1, 1, none⟩ = false := (hf1 (w.heap.size + 1) 1 (by simp)).trans (by go_simp)
    have u5 : w1.frozen? ⟨w.heap.size + 1, 2, none⟩ = false := (hf1 (w.heap.size + 1) 2 (by simp)).trans (by go_simp)
    clear hc1 hf1
    have hbw : Below w.heap.size w w1 := Below.thenB hA (by simp; omega) hb1
    go_wp2_with fail
    refine (rright_any (1, V, ⟨#[]⟩) _).mono ?_
    rintro e w6 ⟨rfl, hb6⟩
    have hz6 := hb6.size
    simp at hz6
    obtain ⟨hc6, hf6⟩ := bcell hb6
    have a0 : w6.cell? ⟨w.heap.size, 0, none⟩ = some (.int .i64 0) := (hc6 w.heap.size 0 (by first | (simp; done) | (simp; omega))).trans (by go_simp)
    have a1 : w6.cell? ⟨w.heap.size, 1, none⟩ = some (.int .i64 0) := (hc6 w.heap.size 1 (by first | (simp; done) | (simp; omega))).trans (by go_simp)
    have a2 : w6.cell? ⟨w.heap.size, 2, none⟩ = some (.string ⟨#[]⟩) := (hc6 w.heap.size 2 (by first | (simp; done) | (simp; omega))).trans (by go_simp)
    have g0 : w6.frozen? ⟨w.heap.size, 0, none⟩ = false := (hf6 w.heap.size 0 (by first | (simp; done) | (simp; omega))).trans (by go_simp)
    have g1 : w6.frozen? ⟨w.heap.size, 1, none⟩ = false := (hf6 w.heap.size 1 (by first | (simp; done) | (simp; omega))).trans (by go_simp)
    have g2 : w6.frozen? ⟨w.heap.size, 2, none⟩ = false := (hf6 w.heap.size 2 (by first | (simp; done) | (simp; omega))).trans (by go_simp)
    have b0 : w6.cell? ⟨w.heap.size + 1, 0, none⟩ = some (.int .i64 1) := (hc6 (w.heap.size + 1) 0 (by first | (simp; done) | (simp; omega))).trans (by go_simp)
    have b1 : w6.cell? ⟨w.heap.size + 1, 1, none⟩ = some (.int .i64 V) := (hc6 (w.heap.size + 1) 1 (by first | (simp; done) | (simp; omega))).trans (by go_simp)
    have b2 : w6.cell? ⟨w.heap.size + 1, 2, none⟩ = some (.string ⟨#[]⟩) := (hc6 (w.heap.size + 1) 2 (by first | (simp; done) | (simp; omega))).trans (by go_simp)
    clear hc6 hf6
    have hb06 : Below w.heap.size w w6 := Below.thenB (((hbw.setCell (by show w.heap.size ≤ w.heap.size + 1; omega) _).setCell (by show w.heap.size ≤ w.heap.size + 1; omega) _).setCell (by show w.heap.size ≤ w.heap.size + 1; omega) _) (by simp; omega) hb6
    cases hr : vright (1, V, ⟨#[]⟩) with
    | false =>
      have h := HR.out
      unfold ptail at h
      rw [if_neg (by rw [hr]; simp)] at h
      have H := Lib.hid h
      clear h hr
      go_wp2
      simp [bodyPost, results, Tryd.results35, go_sem, a0, a1, a2]
      refine ⟨?_, ((hb06.setCell (Nat.le_refl _) _).setCell (Nat.le_refl _) _).setCell (Nat.le_refl _) _⟩
      rw [H.out]; rfl
    | true =>
      have HRR := Lib.hid hr
      clear hr
      go_wp2_with fail
      refine (rvprint_any (1, V, ⟨#[]⟩) HRR.out hbV.1 hbV.2 _).mono ?_
      rintro e w7 ⟨rfl, hb7⟩
      have hz7 := hb7.size
      obtain ⟨hc7, hf7⟩ := bcell hb7
      have a0' := (hc7 w.heap.size 0 (by omega)).trans a0
      have a1' := (hc7 w.heap.size 1 (by omega)).trans a1
      have a2' := (hc7 w.heap.size 2 (by omega)).trans a2
      have g0' := (hf7 w.heap.size 0 (by omega)).trans g0
      have g1' := (hf7 w.heap.size 1 (by omega)).trans g1
      have g2' := (hf7 w.heap.size 2 (by omega)).trans g2
      have b0' := (hc7 (w.heap.size + 1) 0 (by omega)).trans b0
      have b1' := (hc7 (w.heap.size + 1) 1 (by omega)).trans b1
      have b2' := (hc7 (w.heap.size + 1) 2 (by omega)).trans b2
      clear hc7 hf7 a0 a1 a2 g0 g1 g2 b0 b1 b2
      have hb07 : Below w.heap.size w w7 := Below.thenB hb06 (by omega) hb7
      obtain ⟨PR, hPR⟩ : ∃ PR, PR = vprint (1, V, ⟨#[]⟩) := ⟨_, rfl⟩
      rw [← hPR]
      by_cases hp : PR = s.data.toList
      · have hd : (PR == s.toList) = true := by rw [ByteArray.toList_eq, hp]; simp
        have h := HR.out
        unfold ptail at h
        rw [if_pos ⟨HRR.out, hPR.symm.trans hp⟩] at h
        have H := Lib.hid h
        clear h hp hPR
        go_wp2
        simp [bodyPost, results, Tryd.results35, go_sem, a0', a1', a2']
        refine ⟨?_, ((hb07.setCell (Nat.le_refl _) _).setCell (Nat.le_refl _) _).setCell (Nat.le_refl _) _⟩
        rw [H.out]; rfl
      · have hd : (PR == s.toList) = false := by rw [ByteArray.toList_eq]; exact beq_false_of_ne hp
        have h := HR.out
        unfold ptail at h
        rw [if_neg (fun h' => hp (hPR.trans h'.2))] at h
        have H := Lib.hid h
        clear h hp hPR
        go_wp2
        simp [bodyPost, results, Tryd.results35, go_sem, a0', a1', a2']
        refine ⟨?_, ((hb07.setCell (Nat.le_refl _) _).setCell (Nat.le_refl _) _).setCell (Nat.le_refl _) _⟩
        rw [H.out]; rfl
set_option maxRecDepth 100000 in
set_option maxHeartbeats 2000000 in
theorem rp_none (s : ByteArray) (hs : s.size ≤ 1000) (h1 : ¬ s.data.toList = [116, 114, 117, 101]) (h2 : ¬ s.data.toList = [102, 97, 108, 115, 101]) (hq : ∀ h : 0 < s.size, s[0].toNat ≠ 39) (hV : pE (parV s.data.toList) ≠ 0) (w : World) : Calls Tryd.prog 35 #[.string s] w fun e w' => e = rret ((none : Option Val)) ∧ Below w.heap.size w w' := by
  have d1 : (s.toList == [116, 114, 117, 101]) = false := by rw [ByteArray.toList_eq]; exact beq_false_of_ne h1
  have d2 : (s.toList == [102, 97, 108, 115, 101]) = false := by rw [ByteArray.toList_eq]; exact beq_false_of_ne h2
  clear h1 h2
  have hA : Below w.heap.size w ((w.alloc (.cells #[.int .i64 0, .int .i64 0, .string ⟨#[]⟩] 34)).alloc (.cells #[.int .i64 3, .int .i64 0, .string ⟨#[]⟩] 34)) := ((Below.refl _ _).alloc (Nat.le_refl _) _).alloc (by simp) _
  obtain ⟨R, hR⟩ : ∃ R, R = (none : Option Val) := ⟨_, rfl⟩
  rw [← hR]
  have HR := Lib.hid hR
  clear hR
  by_cases hp0 : 0 < s.size
  · have d3 : ((s[0].toNat : Int) == 39) = false := beq_false_of_ne (by have := hq hp0; omega)
    have d4 : decide (0 < s.size) = true := decide_eq_true hp0
    clear hq
    go_enter Tryd.func35, Tryd.ntmps35
    obtain ⟨P, hP⟩ : ∃ P, P = parV s.data.toList := ⟨_, rfl⟩
    have HP := Lib.hid hP
    clear hP
    have hpe : (pE P == 0) = false := by rw [HP.out]; exact beq_false_of_ne hV
    clear hV
    go_wp2_with fail
    refine (rparse_any s hs _).mono ?_
    rintro e w1 ⟨rfl, hb1⟩
    rw [← HP.out]
    have hz1 := hb1.size
    simp at hz1
    obtain ⟨hc1, hf1⟩ := bcell hb1
    have q0 : w1.cell? ⟨w.heap.size, 0, none⟩ = some (.int .i64 0) := (hc1 w.heap.size 0 (by simp; omega)).trans (by go_simp)
    have q1 : w1.cell? ⟨w.heap.size, 1, none⟩ = some (.int .i64 0) := (hc1 w.heap.size 1 (by simp; omega)).trans (by go_simp)
    have q2 : w1.cell? ⟨w.heap.size, 2, none⟩ = some (.string ⟨#[]⟩) := (hc1 w.heap.size 2 (by simp; omega)).trans (by go_simp)
    have u0 : w1.frozen? ⟨w.heap.size, 0, none⟩ = false := (hf1 w.heap.size 0 (by simp; omega)).trans (by go_simp)
    have u1 : w1.frozen? ⟨w.heap.size, 1, none⟩ = false := (hf1 w.heap.size 1 (by simp; omega)).trans (by go_simp)
    have u2 : w1.frozen? ⟨w.heap.size, 2, none⟩ = false := (hf1 w.heap.size 2 (by simp; omega)).trans (by go_simp)
    have q3 : w1.cell? ⟨w.heap.size + 1, 0, none⟩ = some (.int .i64 3) := (hc1 (w.heap.size + 1) 0 (by simp)).trans (by go_simp)
    have q4 : w1.cell? ⟨w.heap.size + 1, 1, none⟩ = some (.int .i64 0) := (hc1 (w.heap.size + 1) 1 (by simp)).trans (by go_simp)
    have q5 : w1.cell? ⟨w.heap.size + 1, 2, none⟩ = some (.string ⟨#[]⟩) := (hc1 (w.heap.size + 1) 2 (by simp)).trans (by go_simp)
    have u3 : w1.frozen? ⟨w.heap.size + 1, 0, none⟩ = false := (hf1 (w.heap.size + 1) 0 (by simp)).trans (by go_simp)
    have u4 : w1.frozen? ⟨w.heap.size + 1, 1, none⟩ = false := (hf1 (w.heap.size + 1) 1 (by simp)).trans (by go_simp)
    have u5 : w1.frozen? ⟨w.heap.size + 1, 2, none⟩ = false := (hf1 (w.heap.size + 1) 2 (by simp)).trans (by go_simp)
    clear hc1 hf1
    have hbw : Below w.heap.size w w1 := Below.thenB hA (by simp; omega) hb1
    generalize pN P = pn at *
    generalize pE P = pe at *
    go_wp2
    simp [bodyPost, results, Tryd.results35, go_sem, q0, q1, q2]
    refine ⟨?_, (((((hbw.setCell (by show w.heap.size ≤ w.heap.size + 1; omega) _).setCell (by show w.heap.size ≤ w.heap.size + 1; omega) _).setCell (by show w.heap.size ≤ w.heap.size + 1; omega) _).setCell (Nat.le_refl _) _).setCell (Nat.le_refl _) _).setCell (Nat.le_refl _) _⟩
    rw [HR.out]; rfl
  · have d4 : decide (0 < s.size) = false := decide_eq_false hp0
    clear hq
    go_enter Tryd.func35, Tryd.ntmps35
    obtain ⟨P, hP⟩ : ∃ P, P = parV s.data.toList := ⟨_, rfl⟩
    have HP := Lib.hid hP
    clear hP
    have hpe : (pE P == 0) = false := by rw [HP.out]; exact beq_false_of_ne hV
    clear hV
    go_wp2_with fail
    refine (rparse_any s hs _).mono ?_
    rintro e w1 ⟨rfl, hb1⟩
    rw [← HP.out]
    have hz1 := hb1.size
    simp at hz1
    obtain ⟨hc1, hf1⟩ := bcell hb1
    have q0 : w1.cell? ⟨w.heap.size, 0, none⟩ = some (.int .i64 0) := (hc1 w.heap.size 0 (by simp; omega)).trans (by go_simp)
    have q1 : w1.cell? ⟨w.heap.size, 1, none⟩ = some (.int .i64 0) := (hc1 w.heap.size 1 (by simp; omega)).trans (by go_simp)
    have q2 : w1.cell? ⟨w.heap.size, 2, none⟩ = some (.string ⟨#[]⟩) := (hc1 w.heap.size 2 (by simp; omega)).trans (by go_simp)
    have u0 : w1.frozen? ⟨w.heap.size, 0, none⟩ = false := (hf1 w.heap.size 0 (by simp; omega)).trans (by go_simp)
    have u1 : w1.frozen? ⟨w.heap.size, 1, none⟩ = false := (hf1 w.heap.size 1 (by simp; omega)).trans (by go_simp)
    have u2 : w1.frozen? ⟨w.heap.size, 2, none⟩ = false := (hf1 w.heap.size 2 (by simp; omega)).trans (by go_simp)
    have q3 : w1.cell? ⟨w.heap.size + 1, 0, none⟩ = some (.int .i64 3) := (hc1 (w.heap.size + 1) 0 (by simp)).trans (by go_simp)
    have q4 : w1.cell? ⟨w.heap.size + 1, 1, none⟩ = some (.int .i64 0) := (hc1 (w.heap.size + 1) 1 (by simp)).trans (by go_simp)
    have q5 : w1.cell? ⟨w.heap.size + 1, 2, none⟩ = some (.string ⟨#[]⟩) := (hc1 (w.heap.size + 1) 2 (by simp)).trans (by go_simp)
    have u3 : w1.frozen? ⟨w.heap.size + 1, 0, none⟩ = false := (hf1 (w.heap.size + 1) 0 (by simp)).trans (by go_simp)
    have u4 : w1.frozen? ⟨w.heap.size + 1, 1, none⟩ = false := (hf1 (w.heap.size + 1) 1 (by simp)).trans (by go_simp)
    have u5 : w1.frozen? ⟨w.heap.size + 1, 2, none⟩ = false := (hf1 (w.heap.size + 1) 2 (by simp)).trans (by go_simp)
    clear hc1 hf1
    have hbw : Below w.heap.size w w1 := Below.thenB hA (by simp; omega) hb1
    generalize pN P = pn at *
    generalize pE P = pe at *
    go_wp2
    simp [bodyPost, results, Tryd.results35, go_sem, q0, q1, q2]
    refine ⟨?_, (((((hbw.setCell (by show w.heap.size ≤ w.heap.size + 1; omega) _).setCell (by show w.heap.size ≤ w.heap.size + 1; omega) _).setCell (by show w.heap.size ≤ w.heap.size + 1; omega) _).setCell (Nat.le_refl _) _).setCell (Nat.le_refl _) _).setCell (Nat.le_refl _) _⟩
    rw [HR.out]; rfl
/-- The two readings are one. -/
theorem head_is (s : ByteArray) : Lib.hasPrefix s.data.toList [39] = true ↔ ∃ h : 0 < s.size, s[0].toNat = 39 := by
  have hll : s.data.toList.length = s.size := by rw [Lib.size_eq]
  constructor
  · intro h
    have hp : 0 < s.size := by
      rw [← hll]
      cases e : s.data.toList with
      | nil => rw [e] at h; simp [Lib.hasPrefix, List.isPrefixOf] at h
      | cons c r => simp
    refine ⟨hp, ?_⟩
    have hg : s.data.toList[0]'(by omega) = s[0] := by rw [Array.getElem_toList]; rfl
    rw [← hg]
    obtain ⟨c, r, e⟩ : ∃ c r, s.data.toList = c :: r := by
      cases e : s.data.toList with
      | nil => rw [e] at hll; simp at hll; omega
      | cons c r => exact ⟨c, r, rfl⟩
    rw [e] at h
    simp [Lib.hasPrefix, List.isPrefixOf] at h
    have : s.data.toList[0]'(by omega) = c := by simp [e]
    rw [this, ← h]; rfl
  · rintro ⟨hp, h⟩
    have hg : s.data.toList[0]'(by omega) = s[0] := by rw [Array.getElem_toList]; rfl
    have h9 : s[0] = 39 := UInt8.toNat_inj.1 h
    cases e : s.data.toList with
    | nil => rw [e] at hll; simp at hll; omega
    | cons c r =>
      have : c = 39 := by rw [← h9, ← hg]; simp [e]
      subst this
      simp [Lib.hasPrefix, List.isPrefixOf]
theorem pe_num (o : Option Int) : (∃ V, o = some V ∧ inB V = true) ∨ (pE o ≠ 0 ∧ numV o = none) := by
  cases o with
  | none => exact .inr ⟨by simp [pE], rfl⟩
  | some V =>
    cases hi : inB V with
    | true => exact .inl ⟨V, rfl, hi⟩
    | false =>
      refine .inr ⟨?_, by unfold numV; simp only []; rw [hi]; rfl⟩
      unfold pE
      simp only []
      rw [er_in, hi]; decide
theorem rvparse_any (s : ByteArray) (hs : s.size ≤ 1000) (w : World) :
    Calls Tryd.prog 35 #[.string s] w fun e w' => e = rret (vparse s.data.toList) ∧ Below w.heap.size w w' := by
  by_cases h1 : s.data.toList = [116, 114, 117, 101]
  · have hv : vparse s.data.toList = ptail [116, 114, 117, 101] (3, 1, ⟨#[]⟩) := by
      rw [h1]; rfl
    rw [hv, ba_eq s _ h1]
    exact rp_true w
  by_cases h2 : s.data.toList = [102, 97, 108, 115, 101]
  · have hv : vparse s.data.toList = ptail [102, 97, 108, 115, 101] (3, 0, ⟨#[]⟩) := by
      rw [h2]; rfl
    rw [hv, ba_eq s _ h2]
    exact rp_false w
  cases hp : Lib.hasPrefix s.data.toList [39] with
  | true =>
    obtain ⟨hp0, hq⟩ := (head_is s).1 hp
    have hne : s.data.toList ≠ [] := fun e => by have : s.size = 0 := by rw [Lib.size_eq, e]; rfl
                                                 omega
    have hv : vparse s.data.toList = ptail s.data.toList (scanV s.data.toList) := by
      unfold vparse ptail
      rw [if_neg h1, if_neg h2, hp, if_pos rfl, inner_scan hne]
    rw [hv]
    exact rp_text s hs h1 h2 hp0 hq w
  | false =>
    have hq : ∀ h : 0 < s.size, s[0].toNat ≠ 39 := fun h e => by
      have := (head_is s).2 ⟨h, e⟩
      rw [hp] at this; cases this
    have hv0 : vparse s.data.toList = numV (parV s.data.toList) := by
      unfold vparse
      rw [if_neg h1, if_neg h2, hp, if_neg (by decide)]; rfl
    rcases pe_num (parV s.data.toList) with ⟨V, hV, hin⟩ | ⟨hpe, hnone⟩
    · have hbV : -9223372036854775808 ≤ V ∧ V ≤ 9223372036854775807 := by unfold inB at hin; exact of_decide_eq_true hin
      have hv : vparse s.data.toList = ptail s.data.toList (1, V, ⟨#[]⟩) := by
        rw [hv0, hV]
        unfold numV ptail
        simp only []
        rw [hin, if_pos rfl, if_pos ⟨rfl, parV_print hV⟩]
      rw [hv]
      exact rp_num s hs h1 h2 hq V hV hin w
    · rw [hv0, hnone]
      exact rp_none s hs h1 h2 hq hpe w
end Go.Proofs.YtbodldlenoehfaaDoor
