/- The document's sums and frames. -/
import Derived.Test.YtfoejfneggcncaaDoorOpens
import Derived.Deep.AppendLies
namespace Go.Proofs.YtfoejfneggcncaaDoor
open Go.RowKit
theorem bit_step (r b : Nat) (hb : b < 2) : bit1 (r ^^^ b) = if r % 2 = b then r / 2 else r / 2 ^^^ PL := by
  unfold bit1
  rw [xor_mod2, xor_div2, show b / 2 = 0 by omega, Nat.xor_zero]
  have := Nat.mod_lt r (show 2 > 0 by omega)
  by_cases h : r % 2 = b
  · rw [if_pos h, if_neg (by omega)]
  · rw [if_neg h, if_pos (by omega)]
theorem bits_step (R c j : Nat) : sh (j + 1) (R ^^^ c % 2 ^ (j + 1)) = if sh j (R ^^^ c % 2 ^ j) % 2 = c / 2 ^ j % 2 then sh j (R ^^^ c % 2 ^ j) / 2 else sh j (R ^^^ c % 2 ^ j) / 2 ^^^ PL := by
  rw [mod_succ, ← Nat.xor_assoc, sh_add j 1, sh_xor j, sh_pow]
  exact bit_step _ _ (by omega)
set_option maxRecDepth 100000 in
set_option maxHeartbeats 4000000 in
theorem rsum_any (s : ByteArray) (hs : s.size ≤ 1048576) (w : World) :
    Calls Tryd.prog 20 #[.string s] w fun e w' => e = .returned (.int .u64 ((crc s.data.toList : Nat) : Int)) ∧ w = w' := by
  have hsl : s.data.toList.length = s.size := by rw [Lib.size_eq]
  have HSL := Lib.hid hsl
  clear hsl
  obtain ⟨F, hF⟩ : ∃ F, F = 18446744073709551615 := ⟨_, rfl⟩
  have hF1 : F < 18446744073709551616 := by omega
  go_enter Tryd.func20, Tryd.ntmps20
  go_wp2
  go_loop [3, 4] (fun r i => ∃ k : Nat, k ≤ s.size ∧ i = .int .i64 (k : Int) ∧ r = .int .u64 ((thr F (s.data.toList.take k) : Nat) : Int)) (fun _ i => s.size - (intOf i).toNat)
  case atStart => exact ⟨0, Nat.zero_le _, rfl, by rw [hF]; rfl⟩
  case round =>
    obtain ⟨k, hk, rfl, rfl⟩ := hrel
    have HF := Lib.hid hF
    clear hF
    by_cases hlt : k < s.size
    · have hlt' : decide ((k : Int) < (s.size : Int)) = true := decide_eq_true (by omega)
      have hT := thr_lt hF1 (s.data.toList.take k)
      have hts : s.data.toList.take (k + 1) = s.data.toList.take k ++ [s[k]] := by
        rw [List.take_succ_eq_append_getElem (by rw [HSL.out]; exact hlt)]; rfl
      have hn : thr F (s.data.toList.take (k + 1)) = sh 8 (thr F (s.data.toList.take k) ^^^ s[k].toNat % 2 ^ 8) := by rw [hts, thr_snoc, Nat.mod_eq_of_lt s[k].toNat_lt]
      have hb := s[k].toNat_lt
      have HN := Lib.hid hn
      clear hts hn
      have hr0 : thr F (s.data.toList.take k) = sh 0 (thr F (s.data.toList.take k) ^^^ s[k].toNat % 2 ^ 0) := by rw [Nat.pow_zero, Nat.mod_one, Nat.xor_zero]; rfl
      generalize thr F (s.data.toList.take k) = T at *
      have HR0 := Lib.hid hr0
      clear hr0
      go_wp2
      go_loop [3, 5] (fun r i => ∃ j : Nat, j ≤ 8 ∧ i = .int .i64 (j : Int) ∧ r = .int .u64 ((sh j (T ^^^ s[k].toNat % 2 ^ j) : Nat) : Int)) (fun _ i => 8 - (intOf i).toNat)
      case atStart => exact ⟨0, Nat.zero_le _, rfl, by rw [← HR0.out]⟩
      case round =>
        obtain ⟨j, hj, rfl, rfl⟩ := hrel
        by_cases hj8 : j < 8
        · have hst := bits_step T s[k].toNat j
          have hQ := sh_lt j (xor_lt64 (b := s[k].toNat % 2 ^ j) hT (Nat.lt_of_le_of_lt (Nat.mod_le _ _) (by omega)))
          generalize sh j (T ^^^ s[k].toNat % 2 ^ j) = Q at hst hQ
          have hx := bits_xor_u64_nat (Q / 2) PL (by omega) (by decide)
          have e0 : ((s[k].toNat : Int) / 2 ^ j) = ((s[k].toNat / 2 ^ j : Nat) : Int) := by simp
          have e1 : IntKind.u64.wrap (((s[k].toNat : Int) / 2 ^ j).tmod 2) = ((s[k].toNat / 2 ^ j % 2 : Nat) : Int) := by
            rw [e0, Int.tmod_eq_emod_of_nonneg (Int.natCast_nonneg _), IntKind.wrap_u64]; omega
          by_cases ho : Q % 2 = s[k].toNat / 2 ^ j % 2
          · have hbt : ((Q : Int) % 2 != IntKind.u64.wrap (((s[k].toNat : Int) / 2 ^ j).tmod 2)) = false := by rw [e1, ← ho]; simp
            rw [if_pos ho] at hst
            have HST := Lib.hid hst
            clear hst e0 e1 ho hx
            go_wp2
            go_round
            case rel => exact ⟨j + 1, by omega, by go_num, by rw [HST.out]; rfl⟩
            case measure => simp [intOf]; omega
          · have hbt : ((Q : Int) % 2 != IntKind.u64.wrap (((s[k].toNat : Int) / 2 ^ j).tmod 2)) = true := by
              rw [e1]
              exact bne_iff_ne.2 (fun e => ho (by omega))
            rw [if_neg ho] at hst
            have HST := Lib.hid hst
            have HX := Lib.hid hx
            clear hst e0 e1 ho hx
            go_wp2
            go_round
            case rel => exact ⟨j + 1, by omega, by go_num, by rw [HST.out, ← HX.out]; rfl⟩
            case measure => simp [intOf]; omega
        · obtain rfl : j = 8 := by omega
          rw [← HN.out]
          go_wp2
          go_round
          case rel => exact ⟨k + 1, by omega, by go_num, rfl⟩
          case measure => simp [intOf]; omega
    · have he : thr F (s.data.toList.take k) = thr F s.data.toList := by rw [List.take_of_length_le (by rw [HSL.out]; omega)]
      have hT := thr_lt hF1 s.data.toList
      rw [he]
      clear he
      have hcr : ((crc s.data.toList : Nat) : Int) = 18446744073709551615 - ((thr F s.data.toList : Nat) : Int) := by rw [show crc s.data.toList = inv (thr F s.data.toList) by rw [HF.out]; rfl]; unfold inv; omega
      have HC := Lib.hid hcr
      clear hcr
      generalize thr F s.data.toList = T at *
      go_wp2
      go_ret
      exact ⟨ret_int HC.out.symm, rfl⟩
def b8s (l : List UInt8) : List Value := l.map fun b => Value.int .u8 (b.toNat : Int)
theorem info_b8 : (Tryd.prog.info? 5).map (fun i => (i.zero, i.size, i.bytes)) = some (some (.int .u8 0), 1, 1) := by kernel_rfl
theorem le8_at (n k : Nat) (hk : k < 8) : (le8 n).take (k + 1) = (le8 n).take k ++ [UInt8.ofNat (n / 256 ^ k)] := by
  rcases k with _ | _ | _ | _ | _ | _ | _ | _ | k <;> first | (exfalso; omega) | simp [le8]
theorem one_cell_new (w : World) (t : TypeId) (x : Value) : ∀ j u, [x][j]? = some u → (w.alloc (.cells #[x] t)).cell? ((⟨w.heap.size, 0, none⟩ : Addr).add j) = some u := by
  intro j u hu
  have hadd : (⟨w.heap.size, 0, none⟩ : Addr).add j = ⟨w.heap.size, j, none⟩ := by unfold Addr.add; split <;> simp_all
  rw [hadd]
  have hb : (w.alloc (.cells #[x] t)).heap[w.heap.size]? = some (.cells #[x] t (0, 0)) := Array.getElem?_push_size
  rw [Lib.cell_of_heap hb j]
  simpa using hu
theorem own1_below {w w' : World} {B : Nat} {t : TypeId} {v : Value} {n : Nat} {xs : List Value} (h : w.ownsRow B t 1 v n xs) (hb : Below w.heap.size w w') : w'.ownsRow B t 1 v n xs :=
  h.kept (row := none) ⟨hb.os, hb.tape, hb.output, hb.size, fun k hk _ => hb.block k hk⟩ (by cases hv : v.ownBlock <;> simp)
theorem conv_b8s {w : World} {base : Nat} {x : Value} {l : List UInt8} (h : w.ownsRow base 5 1 x l.length (b8s l)) : (convert 45 9 x).run Tryd.prog w = .ok (.string ⟨l.toArray⟩) w := by
  rcases h.2 with ⟨rfl, h0⟩ | ⟨g, cap, cur, rfl, _⟩
  · have hl : l = [] := List.eq_nil_of_length_eq_zero h0
    subst hl
    rw [run_convert_bytes_string w 45 9 5 none 0 0 Tryd.underlying45 Tryd.underlying5 Tryd.underlying9]
    simp [Conv.bytesToString]
    rfl
  · exact run_convert_bytes_back w 45 9 5 ⟨g, 0, none⟩ cap l Tryd.underlying45 Tryd.underlying5 Tryd.underlying9 (fun j hj => h.cells (g := g) rfl j _ (by simp [b8s, hj]))
set_option maxRecDepth 100000 in
set_option maxHeartbeats 1000000 in
theorem rseal_eight (n : Nat) (hn : n < 18446744073709551616) (w : World) : Calls Tryd.prog 42 #[.int .u64 (n : Int)] w fun e w' => e = .returned (.string ⟨(le8 n).toArray⟩) ∧ Below w.heap.size w w' := by
  obtain ⟨i0, hi, hz0, hz1, hz2⟩ := info_parts info_b8
  have HL8 := Lib.hid (le8_at n)
  have HN := Lib.hid hn
  clear hn
  go_enter Tryd.func42, Tryd.ntmps42
  go_wp2
  go_loopw [0, 3, 4] (fun x sl i wr => ∃ (k : Nat) (a : Option Addr) (c : Nat), k ≤ 8 ∧ i = .int .i64 (k : Int) ∧ x = .int .u64 ((n / 256 ^ k : Nat) : Int) ∧ sl = .slice a k c ∧ wr.ownsRow w.heap.size 5 1 (.slice a k c) k (b8s ((le8 n).take k)) ∧ Below w.heap.size w wr) (fun _ _ i _ => 8 - (intOf i).toNat)
  case atStart => exact ⟨0, none, 0, by omega, rfl, by simp, rfl, World.ownsRow_nil _ _ _ _, Below.refl _ _⟩
  case round =>
    obtain ⟨k, a, c, hk, rfl, rfl, rfl, hown, hbel⟩ := hrel
    have hszr := hbel.size
    have HO := Lib.hid hown
    clear hown
    by_cases hlt : k < 8
    · have hlt' : decide ((k : Int) < 8) = true := decide_eq_true (by omega)
      have hq : n / 256 ^ k < 18446744073709551616 := Nat.lt_of_le_of_lt (Nat.div_le_self _ _) HN.out
      have hq2 : n / 256 ^ (k + 1) = n / 256 ^ k / 256 := by rw [Nat.pow_succ, Nat.div_div_eq_div_mul]
      have hts := HL8.out k hlt
      have HQ := Lib.hid hq2
      obtain ⟨B, hB⟩ : ∃ B : UInt8, B = UInt8.ofNat (n / 256 ^ k) := ⟨_, rfl⟩
      have hB1 : ((n / 256 ^ k : Nat) : Int) % 256 = (B.toNat : Int) := by rw [hB, u8_of]
      rw [← hB] at hts
      have HT := Lib.hid hts
      clear hq2 hts hB
      generalize n / 256 ^ k = M at *
      go_wp2_with (at_builtin; refine wpList_append_lies _ rfl (.tmp 9) (.tmp 13) 45 rfl w.heap.size 5 i0 (.int .u8 0) 1 1 Tryd.underlying45 hi hz0 hz1 hz2 rfl (by decide) _ k (b8s ((le8 n).take k)) rfl (HO.out.alloc _) ⟨wr.heap.size, 0, none⟩ 1 1 [.int .u8 (B.toNat : Int)] rfl rfl (one_cell_new _ _ _) ?c1 (by decide) ?c2 ?c3 ?c4 (wr.heap.size + 1) ?c5 ?_)
      case c1 => simp [Value.oneCell']
      case c2 => unfold maxLen; omega
      case c3 => omega
      case c4 => simp; omega
      case c5 => simp
      intro g cap w1 hn1 hgr hat hlt1
      have hb1 : Below w.heap.size w w1 := (hbel.alloc hszr _).grown hgr (by simp; omega) (fun j hj => (HO.out.lt j hj).1)
      have hO1 : w1.ownsRow w.heap.size 5 1 (.slice (some ⟨g, 0, none⟩) (k + 1) cap) (k + 1) (b8s ((le8 n).take (k + 1))) := by rw [HT.out]; simpa [b8s] using hn1
      have HO1 := Lib.hid hO1
      clear hgr hat hn1 hO1
      go_wp2
      go_roundw
      case rel => exact ⟨k + 1, some ⟨g, 0, none⟩, cap, by omega, by go_num, by rw [HQ.out]; go_num, rfl, HO1.out, hb1⟩
      case measure => simp [intOf]; omega
    · obtain rfl : k = 8 := by omega
      have hcv := conv_b8s (l := le8 n) HO.out
      go_wp2
      go_ret
      exact ⟨rfl, hbel⟩
set_option maxRecDepth 100000 in
set_option maxHeartbeats 1000000 in
theorem rseal_frame (s : ByteArray) (hs : s.size ≤ 65536) (w : World) :
    Calls Tryd.prog 22 #[.string s] w fun e w' => e = .returned (.string ⟨(frameB s.data.toList).toArray⟩) ∧ Below w.heap.size w w' := by
  obtain ⟨n, hn⟩ : ∃ n, n = s.size := ⟨_, rfl⟩
  have hc := conv_hd w n ((n : Int) / 16777216) ((n : Int) / 65536 % 256) ((n : Int) / 256 % 256) ((n : Int) % 256) (by omega) (by omega) (by omega) (by omega)
  have hn2 : n ≤ 65536 := by omega
  have hn3 : (s.size : Int) = (n : Int) := by omega
  obtain ⟨X, hX⟩ : ∃ X : ByteArray, X = ⟨(hd4 n).toArray⟩ := ⟨_, rfl⟩
  rw [← hX] at hc
  have hXs : X.size ≤ 4 := by rw [hX, ba_len]; exact Nat.le_refl _
  obtain ⟨Y, hY⟩ : ∃ Y : ByteArray, Y = X ++ s := ⟨_, rfl⟩
  have hYl : Y.data.toList = hd4 n ++ s.data.toList := by rw [hY, hX]; simp
  have hYs : Y.size ≤ 65540 := by rw [Lib.size_eq, hYl, List.length_append, ← Lib.size_eq]; have : (hd4 n).length = 4 := rfl; omega
  have hsl : s.data.toList.length = n := by rw [hn, Lib.size_eq]
  have HYL := Lib.hid hYl
  have HSL := Lib.hid hsl
  have hYe := hY.symm
  have hA : ∀ o : Obj, Below w.heap.size w (w.alloc o) := fun o => (Below.refl _ _).alloc (Nat.le_refl _) o
  have HA := Lib.hid hA
  clear hX hY hYl hsl hA
  clear hn
  go_enter Tryd.func22, Tryd.ntmps22
  go_wp2_with fail
  refine (rsum_any Y (by omega) _).mono ?_
  rintro e w1 ⟨rfl, rfl⟩
  rw [HYL.out]
  go_wp2_with fail
  refine (rseal_eight _ (crc_lt _) _).mono ?_
  rintro e w2 ⟨rfl, hb2⟩
  have hB2 := Below.thenB (HA.out _) (by simp) hb2
  obtain ⟨Z, hZ⟩ : ∃ Z : ByteArray, Z = ⟨(le8 (crc (hd4 n ++ s.data.toList))).toArray⟩ := ⟨_, rfl⟩
  rw [← hZ]
  have hZs : Z.size ≤ 8 := by rw [hZ, ba_len]; exact Nat.le_refl _
  have hF : Y ++ Z = ⟨(frameB s.data.toList).toArray⟩ := by
    apply ByteArray.ext
    have e1 : Y.data = (hd4 n ++ s.data.toList).toArray := by rw [← HYL.out]
    show (Y ++ Z).data = _
    rw [ByteArray.data_append, e1, hZ]
    simp [frameB, HSL.out]
  have HF := Lib.hid hF
  clear hF hZ
  go_wp2
  go_ret
  exact ⟨by rw [HF.out]; rfl, hB2⟩
theorem frame_len (l : List UInt8) : (frameB l).length = l.length + 12 := by
  unfold frameB
  rw [List.length_append, List.length_append]
  have : (hd4 l.length).length = 4 := rfl
  have : (le8 (crc (hd4 l.length ++ l))).length = 8 := rfl
  omega
theorem hd4_told (l : List UInt8) (h : 4 ≤ l.length) : l.take 4 = hd4 (told l) := by
  match l, h with
  | a :: b :: c :: d :: r, _ =>
    have := a.toNat_lt; have := b.toNat_lt; have := c.toNat_lt; have := d.toNat_lt
    show [a, b, c, d] = hd4 (num4 a b c d)
    unfold hd4 num4
    congr 1
    · apply UInt8.toNat_inj.1; simp only [UInt8.toNat_ofNat']; omega
    · congr 1
      · apply UInt8.toNat_inj.1; simp only [UInt8.toNat_ofNat']; omega
      · congr 1
        · apply UInt8.toNat_inj.1; simp only [UInt8.toNat_ofNat']; omega
        · congr 1
          apply UInt8.toNat_inj.1; simp only [UInt8.toNat_ofNat']; omega
theorem frame_whole (l : List UInt8) (h : told l + 12 ≤ l.length) : frameB ((l.drop 4).take (told l)) = l.take (told l + 12) ↔ wholeB l (told l) = true := by
  have hl : ((l.drop 4).take (told l)).length = told l := by rw [List.length_take, List.length_drop]; omega
  have e1 : hd4 (told l) ++ (l.drop 4).take (told l) = l.take (4 + told l) := by
    rw [← hd4_told l (by omega), ← List.take_add]
  have e2 : l.take (told l + 12) = l.take (4 + told l) ++ (l.drop (4 + told l)).take 8 := by
    rw [← List.take_add]; congr 1; omega
  unfold frameB wholeB
  rw [hl, e1, e2, decide_eq_true_eq]
  constructor
  · intro e; exact (List.append_cancel_left e).symm
  · intro e; rw [e]
theorem told_lt (l : List UInt8) : told l < 4294967296 := by
  unfold told num4
  have a := (l.getD 0 0).toNat_lt
  have b := (l.getD 1 0).toNat_lt
  have c := (l.getD 2 0).toNat_lt
  have d := (l.getD 3 0).toNat_lt
  omega
set_option maxRecDepth 100000 in
set_option maxHeartbeats 1000000 in
theorem rseal_open (s : ByteArray) (hs : s.size ≤ 1048576) (w : World) :
    Calls Tryd.prog 24 #[.string s] w fun e w' => e = openE (openB s.data.toList) ∧ Below w.heap.size w w' := by
  obtain ⟨R, hR⟩ : ∃ R, R = openB s.data.toList := ⟨_, rfl⟩
  rw [← hR]
  have hsl : s.data.toList.length = s.size := by rw [Lib.size_eq]
  unfold openB at hR
  rw [hsl] at hR
  by_cases h4 : s.size < 4
  · have h4' : decide ((s.size : Int) < 4) = true := decide_eq_true (by omega)
    rw [if_pos h4] at hR
    have HR := Lib.hid hR
    clear hR
    go_enter Tryd.func24, Tryd.ntmps24
    go_wp2
    go_ret3
    exact ⟨by rw [HR.out]; rfl, Below.refl _ _⟩
  · have h4' : decide ((s.size : Int) < 4) = false := decide_eq_false (by omega)
    rw [if_neg h4] at hR
    have q0 : 0 < s.size := by omega
    have q1 : 1 < s.size := by omega
    have q2 : 2 < s.size := by omega
    have q3 : 3 < s.size := by omega
    have g0 : s.data.toList.getD 0 0 = (s[0]'q0) := by rw [List.getD_eq_getElem?_getD, List.getElem?_eq_getElem (by omega)]; rfl
    have g1 : s.data.toList.getD 1 0 = (s[1]'q1) := by rw [List.getD_eq_getElem?_getD, List.getElem?_eq_getElem (by omega)]; rfl
    have g2 : s.data.toList.getD 2 0 = (s[2]'q2) := by rw [List.getD_eq_getElem?_getD, List.getElem?_eq_getElem (by omega)]; rfl
    have g3 : s.data.toList.getD 3 0 = (s[3]'q3) := by rw [List.getD_eq_getElem?_getD, List.getElem?_eq_getElem (by omega)]; rfl
    have hto : ((told s.data.toList : Nat) : Int) = (16777216 : Int) * ((s[0]'q0).toNat : Int) + (65536 : Int) * ((s[1]'q1).toNat : Int) + (256 : Int) * ((s[2]'q2).toNat : Int) + ((s[3]'q3).toNat : Int) := by
      unfold told num4
      rw [g0, g1, g2, g3]; omega
    have hfw := frame_whole s.data.toList
    have hnb := told_lt s.data.toList
    have b0 := (s[0]'q0).toNat_lt
    have b1 := (s[1]'q1).toNat_lt
    have b2 := (s[2]'q2).toNat_lt
    have b3 := (s[3]'q3).toNat_lt
    rw [hsl] at hfw
    clear g0 g1 g2 g3
    generalize told s.data.toList = n at hR hto hfw hnb
    have i0 : (0 : Int) < (s.size : Int) := by omega
    have i1 : (1 : Int) < (s.size : Int) := by omega
    have i2 : (2 : Int) < (s.size : Int) := by omega
    have i3 : (3 : Int) < (s.size : Int) := by omega
    have HTO := Lib.hid hto.symm
    have HFW := Lib.hid hfw
    have HSL := Lib.hid hsl
    have HR := Lib.hid hR
    clear hto hfw hsl hR
    go_enter Tryd.func24, Tryd.ntmps24
    go_wp2_with fail
    go_quiet (fail)
    rw [HTO.out]
    clear HTO
    have hD : Below w.heap.size w (w.drewN nq) := bdrewN (Below.refl _ _) nq
    generalize w.drewN nq = W at hD ⊢
    by_cases h6 : 65536 < n
    · have h6' : decide ((65536 : Int) < (n : Int)) = true := decide_eq_true (by omega)
      have HR1 : Hid (R = ([], 0, 2)) := by rw [HR.out, if_pos h6]; exact rfl
      clear HR
      go_wp2
      go_ret3
      exact ⟨by rw [HR1.out]; rfl, hD⟩
    · have h6' : decide ((65536 : Int) < (n : Int)) = false := decide_eq_false (by omega)
      by_cases h12 : s.size < n + 12
      · have h12' : decide ((s.size : Int) < (n : Int) + 12) = true := decide_eq_true (by omega)
        have HR1 : Hid (R = ([], 0, 1)) := by rw [HR.out, if_neg h6, if_pos h12]; exact rfl
        clear HR
        go_wp2
        go_ret3
        exact ⟨by rw [HR1.out]; rfl, hD⟩
      · have h12' : decide ((s.size : Int) < (n : Int) + 12) = false := decide_eq_false (by omega)
        have HR0 : Hid (R = if wholeB s.data.toList n = true then (List.take n (List.drop 4 s.data.toList), n + 12, 0) else ([], 0, 2)) := by rw [HR.out, if_neg h6, if_neg h12]; exact rfl
        clear HR
        have k1 : IntKind.i64.wrap (4 + (n : Int)) = 4 + (n : Int) := IntWalk.i64_in _ ⟨by omega, by omega⟩
        have k1' : IntKind.i64.wrap ((n : Int) + 12) = (n : Int) + 12 := IntWalk.i64_in _ ⟨by omega, by omega⟩
        have k2 : (4 + (n : Int)).toNat = 4 + n := by omega
        have k3 : ((n : Int) + 12).toNat = n + 12 := by omega
        have k4 : (0 : Int) ≤ 4 + (n : Int) := by omega
        have k4' : (4 : Int) ≤ 4 + (n : Int) := by omega
        have k5 : (0 : Int) ≤ (n : Int) + 12 := by omega
        have k6 : (n : Int) + 12 ≤ (s.size : Int) := by omega
        have k7 : 4 + (n : Int) ≤ (s.size : Int) := by omega
        obtain ⟨D, hD4⟩ : ∃ D : ByteArray, D = s.extract 4 (4 + n) := ⟨_, rfl⟩
        have hDl : D.data.toList = (s.data.toList.drop 4).take n := by rw [hD4, ext_list, show 4 + n - 4 = n by omega]
        have hDs : D.size ≤ 65536 := by rw [Lib.size_eq, hDl, List.length_take]; omega
        obtain ⟨E, hE⟩ : ∃ E : ByteArray, E = s.extract 0 (n + 12) := ⟨_, rfl⟩
        have hEl : E.toList = s.data.toList.take (n + 12) := by rw [hE, ByteArray.toList_eq, ext_list]; simp
        have hfr := rseal_frame D hDs
        rw [hDl] at hfr
        have hDd : D = ⟨((s.data.toList.drop 4).take n).toArray⟩ := by rw [← hDl]
        have HFR := Lib.hid hfr
        have HDD := Lib.hid hDd
        have hDe := hD4.symm
        have hEe := hE.symm
        have hfw := HFW.out (by omega)
        cases hw : wholeB s.data.toList n with
        | true =>
          rw [hw] at hfw
          have hfe := hfw.2 rfl
          have hb : (frameB ((s.data.toList.drop 4).take n) == E.toList) = true := by rw [hEl, hfe]; simp
          have HR1 : Hid (R = ((s.data.toList.drop 4).take n, n + 12, 0)) := by rw [HR0.out, hw]; exact rfl
          clear HR0 hw hfw hfe hEl hE hD4 hDl hDd hfr HFW hDs
          go_wp2_with fail
          go_region_with (go_at_call 22; refine (HFR.out _).mono ?_; rintro e w1 ⟨rfl, hb1⟩)
          all_goals
            have hB1 := Below.thenB (hD.drew) (by have := hD.size; simp; omega) hb1
            go_wp2
            go_ret3
            exact ⟨by rw [HR1.out, HDD.out]; rfl, hB1⟩
        | false =>
          rw [hw] at hfw
          have hb : (frameB ((s.data.toList.drop 4).take n) == E.toList) = false := by rw [hEl]; exact beq_false_of_ne (fun e => by have := hfw.1 e; cases this)
          have HR1 : Hid (R = ([], 0, 2)) := by rw [HR0.out, hw]; exact rfl
          clear HR0 hw hfw hEl hE hD4 hDl hDd hfr HFW hDs
          go_wp2_with fail
          go_region_with (go_at_call 22; refine (HFR.out _).mono ?_; rintro e w1 ⟨rfl, hb1⟩)
          all_goals
            have hB1 := Below.thenB (hD.drew) (by have := hD.size; simp; omega) hb1
            go_wp2
            go_ret3
            exact ⟨by rw [HR1.out]; rfl, hB1⟩
end Go.Proofs.YtfoejfneggcncaaDoor
