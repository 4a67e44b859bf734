/- Contracts of the document's own reader: Number, cut, number, Size, Signed, Text. -/
import Derived.Test.YtapcnpocaffeoabSm1
import Derived.Test.YtapcnpocaffeoabSame
namespace Go.Proofs.Ytapcnpocaffeoab
open Go.RowKit
theorem conv_1b (w : World) (z : Int) (h0 : 0 ≤ z) (h1 : z < 256) : (convert 39 9 (Value.slice (some ⟨w.heap.size, 0, none⟩) 1 1)).run Try.prog (w.alloc (.cells #[Value.int .u8 z] 5)) = .ok (.string ⟨#[UInt8.ofNat z.toNat]⟩) (w.alloc (.cells #[Value.int .u8 z] 5)) := by
  have h := run_convert_bytes_back (P := Try.prog) (w.alloc (.cells #[Value.int .u8 z] 5)) 39 9 5 ⟨w.heap.size, 0, none⟩ 1 [UInt8.ofNat z.toNat] Try.underlying39 Try.underlying5 Try.underlying9 (by
    intro j hj
    obtain rfl : j = 0 := by simpa using hj
    have e : ((UInt8.ofNat z.toNat).toNat : Int) = z := by simp [UInt8.toNat_ofNat']; omega
    show _ = some (Value.int .u8 ((UInt8.ofNat z.toNat).toNat : Int))
    rw [e]
    go_simp)
  exact h
set_option maxRecDepth 100000 in
set_option maxHeartbeats 1000000 in
theorem rnum4_any (n : Nat) (hn : n < 18446744073709551616) (w : World) :
    Calls Try.prog 38 #[.int .u64 (n : Int)] w fun e w' => e = .returned (.string ⟨(numB n).toArray⟩) ∧ Below w.heap.size w w' := by
  go_enter Try.func38, Try.ntmps38
  go_wp2
  go_loopw [0, 3] (fun x sv wr => ∃ (M f : Nat) (t : ByteArray), x = .int .u64 (M : Int) ∧ sv = .string t ∧ Hid (digs 8 n = digs f M ++ t.data.toList) ∧ M < 256 ^ f ∧ f ≤ 8 ∧ Below w.heap.size w wr) (fun x _ _ => (intOf x).toNat)
  case atStart => exact ⟨n, 8, ⟨#[]⟩, rfl, rfl, Lib.hid (by simp), hn, Nat.le_refl _, Below.refl _ _⟩
  case round =>
    obtain ⟨M, f, t, rfl, rfl, hT, hM, hf, hbel⟩ := hrel
    have hszr := hbel.size
    by_cases hlt : 0 < M
    · have hlt' : decide ((0 : Int) < (M : Int)) = true := decide_eq_true (by omega)
      have hf0 : f ≠ 0 := by
        rintro rfl
        simp at hM
        omega
      obtain ⟨g, rfl⟩ : ∃ g, f = g + 1 := ⟨f - 1, by omega⟩
      have hMb : M < 18446744073709551616 := Nat.lt_of_lt_of_le hM (by have : 256 ^ (g + 1) ≤ 256 ^ 8 := Nat.pow_le_pow_right (by omega) hf; omega)
      have hM2 : M / 256 < 256 ^ g := by rw [Nat.pow_succ] at hM; exact Nat.div_lt_of_lt_mul (by omega)
      have hcv := conv_1b wr ((M : Int) % 256) (by omega) (by omega)
      obtain ⟨X, hX⟩ : ∃ X : ByteArray, X = ⟨#[UInt8.ofNat (((M : Int) % 256).toNat)]⟩ := ⟨_, rfl⟩
      rw [← hX] at hcv
      obtain ⟨Y, hY⟩ : ∃ Y : ByteArray, Y = X ++ t := ⟨_, rfl⟩
      have hYl : digs 8 n = digs g (M / 256) ++ Y.data.toList := by
        rw [hT.out, hY, hX]
        have h1 : UInt8.ofNat (((M : Int) % 256).toNat) = UInt8.ofNat M := by apply UInt8.toNat_inj.1; simp only [UInt8.toNat_ofNat']; omega
        rw [h1, show digs (g + 1) M = digs g (M / 256) ++ [UInt8.ofNat M] by simp only [digs]; rw [if_neg (by omega)]]
        simp
      have hts : t.size ≤ 8 := by have h1 := congrArg List.length hT.out; rw [List.length_append] at h1; have := digs_len_le 8 n; have h2 : t.data.toList.length = t.size := Array.length_toList; omega
      have hXs : X.size ≤ 1 := by rw [hX]; exact Nat.le_refl _
      have hYe := hY.symm
      have HY := Lib.hid hYl
      clear hX hY hYl hT hM
      go_wp2
      go_roundw
      case rel => exact ⟨M / 256, g, Y, by go_num, rfl, HY, hM2, by omega, hbel.alloc hszr _⟩
      case measure => simp [intOf]; omega
    · obtain rfl : M = 0 := by omega
      have hlt' : decide ((0 : Int) < ((0 : Nat) : Int)) = false := decide_eq_false (by omega)
      have ht : digs 8 n = t.data.toList := by rw [hT.out, digs_zero]; rfl
      have hle := digs_len_le 8 n
      have hts : t.size = (digs 8 n).length := by rw [ht, Array.length_toList]; rfl
      have hcv := conv_1b wr (t.size : Int) (by omega) (by omega)
      have hw : IntKind.u8.wrap (t.size : Int) = (t.size : Int) := by rw [IntKind.wrap_u8]; omega
      obtain ⟨X, hX⟩ : ∃ X : ByteArray, X = ⟨#[UInt8.ofNat ((t.size : Int).toNat)]⟩ := ⟨_, rfl⟩
      rw [← hX] at hcv
      obtain ⟨Y, hY⟩ : ∃ Y : ByteArray, Y = X ++ t := ⟨_, rfl⟩
      have hYd : Y = ⟨(numB n).toArray⟩ := by
        rw [hY, hX]; apply ByteArray.ext
        have : t.data = (digs 8 n).toArray := by rw [ht]
        rw [ByteArray.data_append, this, Int.toNat_natCast, hts]; simp [numB]
      have hts8 : t.size ≤ 8 := by omega
      have hXs : X.size ≤ 1 := by rw [hX]; exact Nat.le_refl _
      have hYe := hY.symm
      have HY := Lib.hid hYd
      clear hX hY hYd hT ht hts
      go_wp2
      go_ret
      exact ⟨by rw [HY.out]; rfl, hbel.alloc hszr _⟩
theorem ba_of_list {s : ByteArray} {l : List UInt8} (h : s.data.toList = l) : s = ⟨l.toArray⟩ := by rw [← h]
theorem takeS_true (n : Nat) (l : List UInt8) : (takeS n l true).1 = [] ∧ (takeS n l true).2.2 = true := by
  unfold takeS; split <;> simp
set_option maxRecDepth 100000 in
set_option maxHeartbeats 1000000 in
theorem pcut_any (p n : Nat) (l : List UInt8) (bd : Bool) (w : World) (h : PSt w p l bd) :
    Calls Try.prog 64 #[.pointer (some ⟨p, 0, none⟩), .int .i64 (n : Int)] w fun e w' => e = .returned (.string ⟨(takeS n l bd).1.toArray⟩) ∧ PSt w' p (takeS n l bd).2.1 (takeS n l bd).2.2 ∧ Chg (· = p) w w' := by
  obtain ⟨s, hp, hs⟩ := h
  cases bd with
  | true =>
    obtain ⟨h1, h2⟩ := takeS_true n l
    rw [h1]
    exact (pcut_bad p s n w hp).mono fun e w' h => ⟨h.1, ⟨s, by rw [h2]; exact h.2.1, fun h => by rw [h2] at h; cases h⟩, h.2.2⟩
  | false =>
    have hl : s.data.toList = l := hs rfl
    have hll : l.length = s.size := by rw [← hl]; exact Array.length_toList
    have hp0 := hp.1
    obtain ⟨⟨c0, c1⟩, f0, f1⟩ := two_at hp.2
    by_cases hlt : s.size < n
    · have hd : decide ((s.size : Int) < (n : Int)) = true := decide_eq_true (by omega)
      have hT : takeS n l false = ([], [], true) := by unfold takeS; rw [if_pos (by omega)]
      rw [hT]
      have HP := Lib.hid hp.bad
      have HC := Lib.hid ((Chg.refl (· = p) w).setCell (p := ⟨p, 1, none⟩) (.inr rfl) (.bool true))
      clear hs hl hll hp hT
      go_enter Try.func64, Try.ntmps64
      go_wp2
      go_ret
      exact ⟨rfl, ⟨_, HP.out, fun h => by cases h⟩, HC.out⟩
    · have hd : decide ((s.size : Int) < (n : Int)) = false := decide_eq_false (by omega)
      have hT : takeS n l false = (l.take n, l.drop n, false) := by unfold takeS; rw [if_neg (by omega)]; rfl
      rw [hT]
      have hx1 : s.extract 0 n = ⟨(l.take n).toArray⟩ := ba_of_list (by rw [ext_list, hl]; simp)
      have hx2l : (s.extract n s.size).data.toList = l.drop n := by rw [ext_list, hl, ← hll, List.take_of_length_le (by simp)]
      obtain ⟨A, hA⟩ : ∃ A, A = s.extract 0 n := ⟨_, rfl⟩
      obtain ⟨B, hB⟩ : ∃ B, B = s.extract n s.size := ⟨_, rfl⟩
      have hA' := hA.symm
      have hB' := hB.symm
      have k0 : (0 : Int) ≤ (n : Int) := by omega
      have k1 : (n : Int) ≤ (s.size : Int) := by omega
      have HA := Lib.hid (hA.trans hx1)
      have HB := Lib.hid (show B.data.toList = l.drop n by rw [hB]; exact hx2l)
      have HP := Lib.hid (hp.set B)
      have HC := Lib.hid ((Chg.refl (· = p) w).setCell (p := ⟨p, 0, none⟩) (.inr rfl) (.string B))
      clear hs hl hll hp hT hx1 hx2l hA hB
      go_enter Try.func64, Try.ntmps64
      go_wp2
      go_ret
      exact ⟨by rw [HA.out]; rfl, ⟨_, HP.out, fun _ => HB.out⟩, HC.out⟩
theorem nmod_exact' : ∀ (n : Nat) (l : List UInt8), l.length = n → n ≤ 8 → nmod l = l.foldl (fun a c => a * 256 + c.toNat) 0 ∧ l.foldl (fun a c => a * 256 + c.toNat) 0 < 256 ^ n
  | 0, l, h, _ => by
    have : l = [] := List.eq_nil_of_length_eq_zero h
    subst this; simp [nmod]
  | n + 1, l, h, h8 => by
    rcases List.eq_nil_or_concat l with rfl | ⟨t, c, rfl⟩
    · simp at h
    · rw [List.concat_eq_append] at h ⊢
      rw [List.length_append, List.length_singleton] at h
      obtain ⟨h1, h2⟩ := nmod_exact' n t (by omega) (by omega)
      have hc := c.toNat_lt
      have hp : 256 ^ n ≤ 256 ^ 7 := Nat.pow_le_pow_right (by omega) (by omega)
      rw [nmod_snoc, h1, List.foldl_append, Nat.pow_succ]
      simp only [List.foldl_cons, List.foldl_nil]
      generalize t.foldl (fun a c => a * 256 + c.toNat) 0 = F at h2 ⊢
      omega
theorem nmod_exact (l : List UInt8) (h : l.length ≤ 8) : nmod l = l.foldl (fun a c => a * 256 + c.toNat) 0 ∧ l.foldl (fun a c => a * 256 + c.toNat) 0 < 256 ^ l.length := nmod_exact' l.length l rfl h
theorem digs_of : ∀ (f : Nat) (l : List UInt8), l.length ≤ f → (digs f (l.foldl (fun a c => a * 256 + c.toNat) 0)).length = l.length → digs f (l.foldl (fun a c => a * 256 + c.toNat) 0) = l
  | 0, l, h, _ => by
    have : l = [] := List.eq_nil_of_length_eq_zero (by omega)
    subst this; rfl
  | f + 1, l, h, hl => by
    rcases List.eq_nil_or_concat l with rfl | ⟨t, c, rfl⟩
    · rfl
    · rw [List.concat_eq_append] at h hl ⊢
      rw [List.length_append, List.length_singleton] at h hl
      rw [List.foldl_append] at hl ⊢
      simp only [List.foldl_cons, List.foldl_nil] at hl ⊢
      have hc := c.toNat_lt
      have ih := digs_of f t (by omega)
      generalize t.foldl (fun a c => a * 256 + c.toNat) 0 = F at hl ih ⊢
      simp only [digs] at hl ⊢
      by_cases h0 : F * 256 + c.toNat = 0
      · rw [if_pos h0] at hl; simp at hl
      · rw [if_neg h0] at hl ⊢
        have e1 : (F * 256 + c.toNat) / 256 = F := by omega
        have e2 : UInt8.ofNat (F * 256 + c.toNat) = c := by apply UInt8.toNat_inj.1; rw [UInt8.toNat_ofNat']; omega
        rw [e1, e2] at hl ⊢
        rw [List.length_append, List.length_singleton] at hl
        rw [ih (by omega)]
theorem numB_is (c : UInt8) (o : List UInt8) (hc : o.length = c.toNat) (h8 : o.length ≤ 8) : numB (nmod o) = c :: o ↔ (digs 8 (nmod o)).length = c.toNat := by
  unfold numB
  constructor
  · intro h
    injection h with _ h
    rw [h, hc]
  · intro h
    have h1 := (nmod_exact o h8).1
    have h2 := digs_of 8 o h8 (by rw [← h1, h, hc])
    rw [← h1] at h2
    rw [h2, hc, UInt8.ofNat_toNat]
theorem take1 (l : List UInt8) (bd : Bool) : (takeS 1 l bd).2.2 = true ∨ ∃ c l1, takeS 1 l bd = ([c], l1, false) := by
  unfold takeS
  rcases l with _ | ⟨c, r⟩
  · exact .inl rfl
  · cases bd with
    | true => left; simp
    | false => right; exact ⟨c, r, by simp⟩
theorem byteS_of {l l1 : List UInt8} {bd : Bool} {c : UInt8} (h : takeS 1 l bd = ([c], l1, false)) : byteS l bd = (c, l1, false) := by unfold byteS; rw [h]
theorem byteS_bad {l : List UInt8} {bd : Bool} (h : (takeS 1 l bd).2.2 = true) : (byteS l bd).1 = 0 ∧ (byteS l bd).2.2 = true := by
  have hb : (takeS 1 l bd).1 = [] := by
    unfold takeS at h ⊢
    split
    · rfl
    · split
      · rfl
      · rename_i h1 h2; rw [if_neg h1, if_neg h2] at h; exact absurd h h2
  unfold byteS
  generalize takeS 1 l bd = q at h hb
  obtain ⟨o, r, b⟩ := q
  simp only at h hb
  subst h hb
  exact ⟨rfl, rfl⟩
theorem numS_bad1 (M : Nat) {l : List UInt8} {bd : Bool} (h : (takeS 1 l bd).2.2 = true) : (numberS M l bd).1 = 0 ∧ (numberS M l bd).2.2 = true := by
  obtain ⟨h1, h2⟩ := byteS_bad h
  unfold numberS
  simp only [h1, h2]
  rw [(takeS_true _ _).1]
  have h3 := (takeS_true (UInt8.toNat 0) (byteS l bd).2.1).2
  split
  · exact ⟨rfl, h3⟩
  · exact ⟨rfl, rfl⟩
theorem numS_big (M : Nat) {l l1 : List UInt8} {bd : Bool} {c : UInt8} (h : takeS 1 l bd = ([c], l1, false)) (hc : 8 < c.toNat) : (numberS M l bd).1 = 0 ∧ (numberS M l bd).2.2 = true := by
  unfold numberS
  simp only [byteS_of h]
  rw [if_neg (by have := digs_len_le 8 (nmod (takeS c.toNat l1 false).1); omega)]
  exact ⟨rfl, rfl⟩
theorem numS_cut (M : Nat) {l l1 : List UInt8} {bd : Bool} {c : UInt8} (h : takeS 1 l bd = ([c], l1, false)) (h2 : (takeS c.toNat l1 false).2.2 = true) : (numberS M l bd).1 = 0 ∧ (numberS M l bd).2.2 = true := by
  unfold numberS
  simp only [byteS_of h]
  have hlt : l1.length < c.toNat := by
    by_cases hx : l1.length < c.toNat
    · exact hx
    · unfold takeS at h2; rw [if_neg hx] at h2; simp at h2
  have ho : (takeS c.toNat l1 false).1 = [] := by unfold takeS; rw [if_pos hlt]
  rw [ho, if_neg (by show ¬ ((digs 8 0).length = c.toNat ∧ _); rw [digs_zero]; simp; omega)]
  exact ⟨rfl, rfl⟩
theorem numS_ok (M : Nat) {l l1 l2 o : List UInt8} {bd : Bool} {c : UInt8} (h : takeS 1 l bd = ([c], l1, false)) (h2 : takeS c.toNat l1 false = (o, l2, false)) (hn : (digs 8 (nmod o)).length = c.toNat) (hM : nmod o ≤ M) : numberS M l bd = (nmod o, l2, false) := by
  unfold numberS
  simp only [byteS_of h, h2]
  rw [if_pos ⟨hn, hM⟩]
theorem numS_no (M : Nat) {l l1 l2 o : List UInt8} {bd : Bool} {c : UInt8} (h : takeS 1 l bd = ([c], l1, false)) (h2 : takeS c.toNat l1 false = (o, l2, false)) (hn : ¬ (digs 8 (nmod o)).length = c.toNat) : (numberS M l bd).1 = 0 ∧ (numberS M l bd).2.2 = true := by
  unfold numberS
  simp only [byteS_of h, h2]
  rw [if_neg (fun h => hn h.1)]
  exact ⟨rfl, rfl⟩
theorem takeS_len2 {n : Nat} {l o l2 : List UInt8} (h : takeS n l false = (o, l2, false)) : o.length = n := by
  unfold takeS at h
  split at h
  · simp at h
  · simp at h; rw [← h.1, List.length_take]; omega
theorem takeS_o {n : Nat} (l : List UInt8) (bd : Bool) : (takeS n l bd).1.length ≤ n := by
  unfold takeS
  split
  · exact Nat.zero_le _
  · split
    · exact Nat.zero_le _
    · rw [List.length_take]; omega
theorem pst_of_bad {w : World} {p : Nat} {s : ByteArray} {b : Bool} (l : List UInt8) (h : PAt w p s true) (hb : b = true) : PSt w p l b := ⟨s, by rw [hb]; exact h, fun h => by rw [hb] at h; cases h⟩
set_option maxRecDepth 100000 in
set_option maxHeartbeats 4000000 in
theorem pnumber_any (p : Nat) (l : List UInt8) (bd : Bool) (w : World) (h : PSt w p l bd) :
    Calls Try.prog 63 #[.pointer (some ⟨p, 0, none⟩)] w fun e w' => e = .returned (.int .u64 (((numberS 18446744073709551615 l bd).1 : Nat) : Int)) ∧ PSt w' p (numberS 18446744073709551615 l bd).2.1 (numberS 18446744073709551615 l bd).2.2 ∧ Chg (· = p) w w' := by
  have H1 := pcut_any p 1 l bd w h
  obtain ⟨R, hR⟩ : ∃ R, R = numberS 18446744073709551615 l bd := ⟨_, rfl⟩
  rw [← hR]
  clear h
  rcases take1 l bd with hb | ⟨c, l1, hT⟩
  · obtain ⟨e1, e2⟩ := numS_bad1 18446744073709551615 hb
    rw [← hR] at e1 e2
    rw [hb] at H1
    generalize (⟨(takeS 1 l bd).1.toArray⟩ : ByteArray) = X at H1
    have HH := Lib.hid H1
    have E1 := Lib.hid e1
    have E2 := Lib.hid e2
    clear H1 e1 e2 hb hR
    go_enter Try.func63, Try.ntmps63
    go_wp2_with fail
    refine HH.out.mono ?_
    rintro e w1 ⟨rfl, ⟨s1, h1, _⟩, hC1⟩
    obtain ⟨⟨c0, c1⟩, f0, f1⟩ := two_at h1.2
    have HP := Lib.hid h1.bad
    have HC := Lib.hid (hC1.setCell (p := ⟨p, 1, none⟩) (.inr rfl) (.bool true))
    clear h1 hC1 HH
    go_wp2
    go_ret
    exact ⟨by rw [E1.out]; rfl, pst_of_bad _ HP.out E2.out, HC.out⟩
  · rw [hT] at H1
    simp only [] at H1
    rw [show ([c] : List UInt8).toArray = #[c] from rfl] at H1
    obtain ⟨C, hC0, hC1, rfl, hCe⟩ : ∃ C : ByteArray, ∃ h : 0 < C.size, C.size = 1 ∧ c = C[0] ∧ (⟨#[c]⟩ : ByteArray) = C := ⟨⟨#[c]⟩, Nat.zero_lt_one, rfl, rfl, rfl⟩
    rw [hCe] at H1
    by_cases h8 : 8 < C[0].toNat
    · obtain ⟨e1, e2⟩ := numS_big 18446744073709551615 hT h8
      rw [← hR] at e1 e2
      have hd : decide ((8 : Int) < (C[0].toNat : Int)) = true := decide_eq_true (by omega)
      have HH := Lib.hid H1
      have E1 := Lib.hid e1
      have E2 := Lib.hid e2
      clear H1 e1 e2 hT hR hCe
      go_enter Try.func63, Try.ntmps63
      go_wp2_with fail
      refine HH.out.mono ?_
      rintro e w1 ⟨rfl, ⟨s1, h1, _⟩, hC1⟩
      obtain ⟨⟨c0, c1⟩, f0, f1⟩ := two_at h1.2
      have HP := Lib.hid h1.bad
      have HC := Lib.hid (hC1.setCell (p := ⟨p, 1, none⟩) (.inr rfl) (.bool true))
      clear h1 hC1 HH
      go_wp2
      go_ret
      exact ⟨by rw [E1.out]; rfl, pst_of_bad _ HP.out E2.out, HC.out⟩
    · have hd : decide ((8 : Int) < (C[0].toNat : Int)) = false := decide_eq_false (by omega)
      have hzw : IntKind.i64.wrap (C[0].toNat : Int) = (C[0].toNat : Int) := by simp [IntKind.wrap, IntKind.bits, IntKind.signed]; omega
      have hcut := fun W hW => pcut_any p C[0].toNat l1 false W hW
      obtain ⟨⟨o, l2, b2⟩, hq⟩ : ∃ q, q = takeS C[0].toNat l1 false := ⟨_, rfl⟩
      simp only [← hq] at hcut
      have ho : o.length ≤ 8 := by have := takeS_o (n := C[0].toNat) l1 false; rw [← hq] at this; simp only at this; omega
      obtain ⟨O, hO⟩ : ∃ O : ByteArray, O = ⟨o.toArray⟩ := ⟨_, rfl⟩
      have hOl : O.size = o.length := by rw [hO]; exact ba_len o
      have hOg : ∀ j (hj : j < O.size) (hj' : j < o.length), O[j] = o[j] := by intro j hj hj'; subst hO; simp [ByteArray.getElem_eq_getElem_data]
      rw [← hO] at hcut
      -- what is answered, by what was taken
      have hfin : (b2 = true ∧ R.1 = 0 ∧ R.2.2 = true) ∨ (b2 = false ∧ (C ++ O) = ⟨(numB (nmod o)).toArray⟩ ∧ R = (nmod o, l2, false)) ∨ (b2 = false ∧ ¬ (C ++ O) = ⟨(numB (nmod o)).toArray⟩ ∧ R.1 = 0 ∧ R.2.2 = true) := by
        have hcO : (C ++ O) = ⟨(C[0] :: o).toArray⟩ := by
          rw [hO]
          have hCd : C.data = #[C[0]] := by rw [← congrArg ByteArray.data hCe]
          apply ByteArray.ext
          rw [ByteArray.data_append, hCd]
          simp
        cases b2 with
        | true => exact .inl ⟨rfl, by rw [hR]; exact numS_cut _ hT (by rw [← hq])⟩
        | false =>
          have hlen := takeS_len2 hq.symm
          by_cases hn : (digs 8 (nmod o)).length = C[0].toNat
          · exact .inr (.inl ⟨rfl, by rw [hcO, (numB_is C[0] o hlen ho).2 hn], by rw [hR]; exact numS_ok _ hT hq.symm hn (by have := nmod_lt o; omega)⟩)
          · refine .inr (.inr ⟨rfl, ?_, by rw [hR]; exact numS_no _ hT hq.symm hn⟩)
            rw [hcO]
            intro e
            have e2 : (C[0] :: o) = numB (nmod o) := by
              have := congrArg (fun s : ByteArray => s.data.toList) e
              simpa using this
            exact hn ((numB_is C[0] o hlen ho).1 e2.symm)
      have HH := Lib.hid H1
      have HCUT := Lib.hid hcut
      have HFIN := Lib.hid hfin
      have HOG := Lib.hid hOg
      clear H1 hcut hfin hOg hR hq hO hT h8 hCe
      go_enter Try.func63, Try.ntmps63
      go_wp2_with fail
      refine HH.out.mono ?_
      rintro e w1 ⟨rfl, h1, hC1⟩
      obtain ⟨s1, h1a, _⟩ := id h1
      obtain ⟨⟨c0, c1⟩, f0, f1⟩ := two_at h1a.2
      have HC2 := Lib.hid (HCUT.out w1 h1)
      have HC1 := Lib.hid hC1
      clear h1 h1a hC1 HH HCUT
      go_wp2_with fail
      refine HC2.out.mono ?_
      rintro e w2 ⟨rfl, ⟨s2, h2, hl2⟩, hC2⟩
      have hp2 := h2.1
      obtain ⟨⟨c0', c1'⟩, f0', f1'⟩ := two_at h2.2
      have HCC := Lib.hid (HC1.out.trans hC2)
      have HP2 := Lib.hid h2
      have HL2 := Lib.hid hl2
      clear h2 hC2 hl2 HC1 HC2 c0 c1 f0 f1
      go_wp2
      go_loopw [5, 6] (fun nv iv wr => ∃ i : Nat, i ≤ o.length ∧ iv = .int .i64 (i : Int) ∧ nv = .int .u64 ((nmod (o.take i) : Nat) : Int) ∧ wr = w2) (fun _ iv _ => o.length - (intOf iv).toNat)
      case atStart => exact ⟨0, Nat.zero_le _, rfl, rfl, rfl⟩
      case round =>
        obtain ⟨i, hi, rfl, rfl, rfl⟩ := hrel
        by_cases hlt : i < o.length
        · have hlt' : decide ((i : Int) < (O.size : Int)) = true := decide_eq_true (by omega)
          have hg := HOG.out i (by omega) hlt
          have hb := (nmod_exact (o.take i) (by rw [List.length_take]; omega))
          have hpw : 256 ^ (o.take i).length ≤ 256 ^ 7 := Nat.pow_le_pow_right (by omega) (by rw [List.length_take]; omega)
          have hN : nmod (o.take i) < 256 ^ 7 := by rw [hb.1]; omega
          have hst : nmod (o.take (i + 1)) = nmod (o.take i) * 256 + o[i].toNat := by
            rw [List.take_succ_eq_append_getElem hlt, nmod_snoc]
            have := o[i].toNat_lt
            omega
          have HS := Lib.hid hst
          have hu := o[i].toNat_lt
          clear hb hpw hst
          generalize nmod (o.take i) = N at *
          go_wp2
          go_roundw
          case rel => exact ⟨i + 1, by omega, by go_num, by rw [HS.out]; go_num, trivial⟩
          case measure => simp [intOf]; omega
        · have hlt' : decide ((i : Int) < (O.size : Int)) = false := decide_eq_false (by omega)
          have hie : o.take i = o := List.take_of_length_le (by omega)
          rw [hie]
          have hN := nmod_lt o
          have HNU := Lib.hid (rnum4_any (nmod o) hN wr)
          generalize nmod o = N at *
          obtain ⟨X, hX⟩ : ∃ X : ByteArray, X = ⟨(numB N).toArray⟩ := ⟨_, rfl⟩
          rw [← hX] at HFIN HNU
          obtain ⟨Y, hY⟩ : ∃ Y : ByteArray, Y = C ++ O := ⟨_, rfl⟩
          rw [← hY] at HFIN
          have hY' := hY.symm
          clear hX hY hie
          rcases HFIN.out with ⟨rfl, e1, e2⟩ | ⟨rfl, e1, e2⟩ | ⟨rfl, hne, e1, e2⟩
          · have E1 := Lib.hid e1
            have E2 := Lib.hid e2
            clear e1 e2 HFIN
            go_wp2
            go_ret
            exact ⟨by rw [E1.out]; rfl, pst_of_bad _ HP2.out E2.out, HCC.out⟩
          · subst e1
            have E2 := Lib.hid e2
            clear e2 HFIN
            go_wp2_with fail
            refine HNU.out.mono ?_
            rintro e w3 ⟨rfl, hb3⟩
            have h3 := HP2.out.below hb3
            obtain ⟨⟨d0, d1⟩, g0, g1⟩ := two_at h3.2
            have HP3 := Lib.hid h3
            have HC3 := Lib.hid (HCC.out.thenB hb3)
            clear h3 hb3 HNU
            go_wp2
            go_ret
            exact ⟨by rw [E2.out]; rfl, ⟨s2, by rw [E2.out]; exact HP3.out, fun _ => by rw [E2.out]; exact HL2.out trivial⟩, HC3.out⟩
          · have hnl := list_ne (fun e => hne e.symm : ¬ X = Y)
            have E1 := Lib.hid e1
            have E2 := Lib.hid e2
            clear e1 e2 HFIN hne
            go_wp2_with fail
            refine HNU.out.mono ?_
            rintro e w3 ⟨rfl, hb3⟩
            have h3 := HP2.out.below hb3
            have hp3 := h3.1
            obtain ⟨⟨d0, d1⟩, g0, g1⟩ := two_at h3.2
            have h4 := h3.bad
            obtain ⟨⟨d0', d1'⟩, _⟩ := two_at h4.2
            have HP4 := Lib.hid h4
            have HC4 := Lib.hid ((HCC.out.thenB hb3).setCell (p := ⟨p, 1, none⟩) (.inr rfl) (.bool true))
            clear h3 hb3 HNU h4
            go_wp2
            any_goals (rename_i hx; exfalso; revert hx; simp [hnl]; done)
            go_ret
            exact ⟨by rw [E1.out]; rfl, pst_of_bad _ HP4.out E2.out, HC4.out⟩
theorem numS_le (m : Nat) (l : List UInt8) (bd : Bool) : numberS m l bd = if (numberS 18446744073709551615 l bd).1 ≤ m then numberS 18446744073709551615 l bd else (0, [], true) := by
  unfold numberS
  simp only
  generalize takeS (byteS l bd).1.toNat (byteS l bd).2.1 (byteS l bd).2.2 = q
  have hM := nmod_lt q.1
  by_cases hd : (digs 8 (nmod q.1)).length = (byteS l bd).1.toNat
  · have e1 : ((digs 8 (nmod q.1)).length = (byteS l bd).1.toNat ∧ nmod q.1 ≤ 18446744073709551615) := ⟨hd, by omega⟩
    rw [if_pos e1]
    by_cases hm : nmod q.1 ≤ m
    · rw [if_pos ⟨hd, hm⟩, if_pos hm]
    · rw [if_neg (fun h => hm h.2), if_neg hm]
  · have n1 : ¬ ((digs 8 (nmod q.1)).length = (byteS l bd).1.toNat ∧ nmod q.1 ≤ m) := fun h => hd h.1
    have n2 : ¬ ((digs 8 (nmod q.1)).length = (byteS l bd).1.toNat ∧ nmod q.1 ≤ 18446744073709551615) := fun h => hd h.1
    rw [if_neg n1, if_neg n2]
    simp
theorem numS_zero (M : Nat) (l : List UInt8) (bd : Bool) (h : (numberS M l bd).2.2 = true) : (numberS M l bd).1 = 0 := by
  rcases take1 l bd with hb | ⟨c, l1, hT⟩
  · exact (numS_bad1 M hb).1
  · by_cases h2 : (takeS c.toNat l1 false).2.2 = true
    · exact (numS_cut M hT h2).1
    · have h3 : (takeS c.toNat l1 false).2.2 = false := by simpa using h2
      unfold numberS at h ⊢
      simp only [byteS_of hT] at h ⊢
      split
      · rename_i hc; rw [if_pos hc] at h; simp only at h; rw [h3] at h; cases h
      · rfl
set_option maxRecDepth 100000 in
set_option maxHeartbeats 1000000 in
theorem psize_any (p : Nat) (most : Int) (hmx : most ≤ 9223372036854775807) (l : List UInt8) (bd : Bool) (w : World) (h : PSt w p l bd) :
    Calls Try.prog 44 #[.pointer (some ⟨p, 0, none⟩), .int .i64 most] w fun e w' => e = .returned (.int .i64 (((sizeS most l bd).1 : Nat) : Int)) ∧ PSt w' p (sizeS most l bd).2.1 (sizeS most l bd).2.2 ∧ Chg (· = p) w w' := by
  have HB := Lib.hid (pnumber_any p l bd w h)
  obtain ⟨S, hS⟩ : ∃ S, S = sizeS most l bd := ⟨_, rfl⟩
  rw [← hS]
  have hz := numS_zero 18446744073709551615 l bd
  have hle := numS_le most.toNat l bd
  unfold sizeS at hS
  rw [hle] at hS
  have hlt := numberS_le 18446744073709551615 l bd
  clear h hle
  obtain ⟨⟨n, l1, b1⟩, hq⟩ : ∃ q, q = numberS 18446744073709551615 l bd := ⟨_, rfl⟩
  rw [← hq] at hS hz HB hlt
  simp only at hS hz HB hlt
  clear hq
  by_cases hm : most < 0
  · have hd : decide (most < 0) = true := decide_eq_true hm
    rw [if_pos hm] at hS
    subst hS
    go_enter Try.func44, Try.ntmps44
    go_wp2_with fail
    refine HB.out.mono ?_
    rintro e w1 ⟨rfl, ⟨s, h1, _⟩, hC1⟩
    obtain ⟨⟨c0, c1⟩, f0, f1⟩ := two_at h1.2
    have hb2 := h1.bad
    obtain ⟨⟨d0, d1⟩, _⟩ := two_at hb2.2
    have HP := Lib.hid hb2
    have HC := Lib.hid (hC1.setCell (p := ⟨p, 1, none⟩) (.inr rfl) (.bool true))
    clear h1 hC1 HB hb2
    go_wp2
    go_ret
    exact ⟨rfl, pst_of_bad _ HP.out rfl, HC.out⟩
  · obtain ⟨m, rfl⟩ : ∃ m : Nat, most = (m : Int) := ⟨most.toNat, by omega⟩
    have hd : decide ((m : Int) < 0) = false := decide_eq_false hm
    rw [if_neg hm, Int.toNat_natCast] at hS
    by_cases hnm : n ≤ m
    · rw [if_pos hnm] at hS
      subst hS
      have hd2 : decide ((m : Int) < (n : Int)) = false := decide_eq_false (by omega)
      cases b1 with
      | true =>
        obtain rfl : n = 0 := hz rfl
        go_enter Try.func44, Try.ntmps44
        go_wp2_with fail
        refine HB.out.mono ?_
        rintro e w1 ⟨rfl, ⟨s, h1, _⟩, hC1⟩
        obtain ⟨⟨c0, c1⟩, f0, f1⟩ := two_at h1.2
        have HP := Lib.hid h1
        have HC := Lib.hid hC1
        clear h1 hC1 HB
        go_wp2
        go_ret
        exact ⟨rfl, pst_of_bad _ HP.out rfl, HC.out⟩
      | false =>
        clear hz
        have hw : IntKind.i64.wrap (n : Int) = (n : Int) := by simp [IntKind.wrap, IntKind.bits, IntKind.signed]; omega
        go_enter Try.func44, Try.ntmps44
        go_wp2_with fail
        refine HB.out.mono ?_
        rintro e w1 ⟨rfl, ⟨s, h1, hl1⟩, hC1⟩
        obtain ⟨⟨c0, c1⟩, f0, f1⟩ := two_at h1.2
        have HP := Lib.hid (show PSt w1 p l1 false from ⟨s, h1, hl1⟩)
        have HC := Lib.hid hC1
        clear h1 hC1 HB hl1
        go_wp2
        go_ret
        exact ⟨rfl, HP.out, HC.out⟩
    · rw [if_neg hnm] at hS
      subst hS
      have hd2 : decide ((m : Int) < (n : Int)) = true := decide_eq_true (by omega)
      clear hz
      go_enter Try.func44, Try.ntmps44
      go_wp2_with fail
      refine HB.out.mono ?_
      rintro e w1 ⟨rfl, ⟨s, h1, _⟩, hC1⟩
      obtain ⟨⟨c0, c1⟩, f0, f1⟩ := two_at h1.2
      have hb2 := h1.bad
      obtain ⟨⟨d0, d1⟩, _⟩ := two_at hb2.2
      have HP := Lib.hid hb2
      have HC := Lib.hid (hC1.setCell (p := ⟨p, 1, none⟩) (.inr rfl) (.bool true))
      clear h1 hC1 HB hb2
      go_wp2
      go_ret
      exact ⟨rfl, pst_of_bad _ HP.out rfl, HC.out⟩
set_option maxHeartbeats 1000000 in
theorem psigned_any (p : Nat) (l : List UInt8) (bd : Bool) (w : World) (h : PSt w p l bd) :
    Calls Try.prog 45 #[.pointer (some ⟨p, 0, none⟩)] w fun e w' => e = .returned (.int .i64 (signedS l bd).1) ∧ PSt w' p (signedS l bd).2.1 (signedS l bd).2.2 ∧ Chg (· = p) w w' := by
  have HB := Lib.hid (pnumber_any p l bd w h)
  unfold signedS
  have hlt := numberS_le 18446744073709551615 l bd
  clear h
  obtain ⟨⟨n, l1, b1⟩, hq⟩ : ∃ q, q = numberS 18446744073709551615 l bd := ⟨_, rfl⟩
  rw [← hq] at HB hlt ⊢
  simp only at HB hlt ⊢
  clear hq
  obtain ⟨z, hz⟩ : ∃ z, z = unfoldZ n := ⟨_, rfl⟩
  rw [← hz]
  have HZ := Lib.hid hz
  clear hz
  have hw : IntKind.i64.wrap ((n : Int) / 2) = (n : Int) / 2 := by simp [IntKind.wrap, IntKind.bits, IntKind.signed]; omega
  by_cases h2 : n % 2 = 0
  · have hd : ((n : Int) % 2 == 0) = true := beq_iff_eq.2 (by omega)
    have hzz : z = (n : Int) / 2 := by rw [HZ.out]; unfold unfoldZ; rw [if_neg (by omega)]; omega
    have HZZ := Lib.hid hzz
    clear hzz HZ
    have hm0 : (n : Int) % 2 = 0 := by omega
    go_enter Try.func45, Try.ntmps45
    go_wp2_with fail
    refine HB.out.mono ?_
    rintro e w1 ⟨rfl, h1, hC1⟩
    have HP := Lib.hid h1
    have HC := Lib.hid hC1
    clear h1 hC1 HB
    go_wp2
    go_ret
    exact ⟨by rw [HZZ.out]; rfl, HP.out, HC.out⟩
  · have hd : ((n : Int) % 2 == 0) = false := beq_false_of_ne (by omega)
    have hm0 : ¬ (n : Int) % 2 = 0 := by omega
    have hzz : z = -((n : Int) / 2) - 1 := by rw [HZ.out]; unfold unfoldZ; rw [if_pos (by omega)]; omega
    have hw2 : IntKind.i64.wrap (-((n : Int) / 2)) = -((n : Int) / 2) := by simp [IntKind.wrap, IntKind.bits, IntKind.signed]; omega
    have hw3 : IntKind.i64.wrap (-((n : Int) / 2) - 1) = -((n : Int) / 2) - 1 := by simp [IntKind.wrap, IntKind.bits, IntKind.signed]; omega
    have HZZ := Lib.hid hzz
    clear hzz HZ
    go_enter Try.func45, Try.ntmps45
    go_wp2_with fail
    refine HB.out.mono ?_
    rintro e w1 ⟨rfl, h1, hC1⟩
    have HP := Lib.hid h1
    have HC := Lib.hid hC1
    clear h1 hC1 HB
    go_wp2
    go_ret
    exact ⟨by rw [HZZ.out]; go_num, HP.out, HC.out⟩
set_option maxHeartbeats 1000000 in
theorem ptext_any (p : Nat) (most : Int) (hmx : most ≤ 9223372036854775807) (l : List UInt8) (bd : Bool) (w : World) (h : PSt w p l bd) :
    Calls Try.prog 46 #[.pointer (some ⟨p, 0, none⟩), .int .i64 most] w fun e w' => e = .returned (.string ⟨(textS most l bd).1.toArray⟩) ∧ PSt w' p (textS most l bd).2.1 (textS most l bd).2.2 ∧ Chg (· = p) w w' := by
  have HB := Lib.hid (psize_any p most hmx l bd w h)
  unfold textS
  clear h
  obtain ⟨⟨n, l1, b1⟩, hq⟩ : ∃ q, q = sizeS most l bd := ⟨_, rfl⟩
  rw [← hq] at HB ⊢
  simp only at HB ⊢
  clear hq
  have HT := Lib.hid (fun W hW => pcut_any p n l1 b1 W hW)
  obtain ⟨⟨o, l2, b2⟩, hq⟩ : ∃ q, q = takeS n l1 b1 := ⟨_, rfl⟩
  rw [← hq] at HT ⊢
  simp only at HT ⊢
  generalize (⟨o.toArray⟩ : ByteArray) = O at HT ⊢
  clear hq
  go_enter Try.func46, Try.ntmps46
  go_wp2_with fail
  refine HB.out.mono ?_
  rintro e w1 ⟨rfl, h1, hC1⟩
  have HT1 := Lib.hid (HT.out w1 h1)
  have HC := Lib.hid hC1
  clear h1 hC1 HB HT
  go_wp2_with fail
  refine HT1.out.mono ?_
  rintro e w2 ⟨rfl, h2, hC2⟩
  have HP := Lib.hid h2
  have HC2 := Lib.hid (HC.out.trans hC2)
  clear h2 hC2 HT1 HC
  go_wp2
  go_ret
  exact ⟨rfl, HP.out, HC2.out⟩
end Go.Proofs.Ytapcnpocaffeoab
