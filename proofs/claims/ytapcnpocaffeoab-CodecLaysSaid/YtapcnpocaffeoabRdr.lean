/- Contracts of codec's readers: Fail, Good, Len, take, byte, number. -/
import Derived.Test.YtapcnpocaffeoabWrS
import Derived.Deep.Cut
import Derived.Lib.BufferMore
namespace Go.Proofs.Ytapcnpocaffeoab
open Go.RowKit
/-- Bytes that lie from a place on. -/
def U8At (w : World) (k : Nat) : Prop := k < w.heap.size ∧ ∃ cs cl, w.heap[k]? = some (.cells cs 5 cl)
def BytesIn (w : World) (a : Option Addr) (l : List UInt8) (b : Nat) : Prop := l = [] ∨ ∃ k o, a = some ⟨k, o, none⟩ ∧ k ≠ b ∧ U8At w k ∧ ∀ (j : Nat) (u : UInt8), l[j]? = some u → w.cell? ⟨k, o + j, none⟩ = some (.int .u8 (u.toNat : Int))
theorem BytesIn.chg {w w' : World} {a : Option Addr} {l : List UInt8} {b : Nat} (h : BytesIn w a l b) (hc : Chg (· = b) w w') : BytesIn w' a l b := by
  rcases h with h | ⟨k, o, rfl, hb, ⟨hk, cs, cl, ht⟩, hj⟩
  · exact .inl h
  · exact .inr ⟨k, o, rfl, hb, ⟨Nat.lt_of_lt_of_le hk hc.size, cs, cl, (hc.block k hk hb).trans ht⟩, fun j u hu => (hc.cell (p := ⟨k, o + j, none⟩) hk hb).trans (hj j u hu)⟩
/-- A reader at block b: what is to come, is it bad? -/
def RAt (w : World) (b : Nat) (l : List UInt8) (bad : Bool) : Prop := b < w.heap.size ∧ (bad = true → l = []) ∧ l.length ≤ 1073741824 ∧ ∃ a c, w.heap[b]? = some (.cells #[.slice a l.length c, .bool bad] 79 (0, 0)) ∧ l.length ≤ c ∧ BytesIn w a l b
theorem two_at {w : World} {b : Nat} {x y : Value} {T : Nat} (h : w.heap[b]? = some (.cells #[x, y] T (0, 0))) : (w.cell? ⟨b, 0, none⟩ = some x ∧ w.cell? ⟨b, 1, none⟩ = some y) ∧ w.frozen? ⟨b, 0, none⟩ = false ∧ w.frozen? ⟨b, 1, none⟩ = false :=
  ⟨⟨Lib.cell_of_heap h 0, Lib.cell_of_heap h 1⟩, Lib.frozen_of_heap h 0, Lib.frozen_of_heap h 1⟩
theorem RAt.below {w w' : World} {b : Nat} {l : List UInt8} {bad : Bool} (h : RAt w b l bad) (hb : Below w.heap.size w w') : RAt w' b l bad := by
  obtain ⟨h0, h1, h2, a, c, h3, h4, h5⟩ := h
  exact ⟨Nat.lt_of_lt_of_le h0 hb.size, h1, h2, a, c, (hb.block b h0).trans h3, h4, h5.chg (Chg.ofBelow hb)⟩
set_option maxHeartbeats 400000 in
theorem fail_nil (w : World) : Calls Try.prog 52 #[.pointer none] w fun e w' => e = .returned (.tuple #[]) ∧ w = w' := by
  go_enter Try.func52, Try.ntmps52
  go_wp2
  go_end0
  exact ⟨rfl, rfl⟩
set_option maxHeartbeats 1000000 in
theorem fail_any (b : Nat) (l : List UInt8) (bad : Bool) (w : World) (h : RAt w b l bad) : Calls Try.prog 52 #[.pointer (some ⟨b, 0, none⟩)] w fun e w' => e = .returned (.tuple #[]) ∧ RAt w' b [] true ∧ Chg (· = b) w w' := by
  obtain ⟨h0, h1, h2, a, c, h3, h4, h5⟩ := h
  obtain ⟨⟨c0, c1⟩, f0, f1⟩ := two_at h3
  have hs : ((w.setCell ⟨b, 0, none⟩ (.slice none 0 0)).setCell ⟨b, 1, none⟩ (.bool true)).heap[b]? = some (.cells #[.slice none 0 0, .bool true] 79 (0, 0)) := by
    have e1 := Lib.heap_setCell_same (i := 0) h3 (.slice none 0 0)
    exact Lib.heap_setCell_same (i := 1) e1 (.bool true)
  have HS := Lib.hid hs
  clear h3 hs h1
  go_enter Try.func52, Try.ntmps52
  go_wp2
  go_end0
  exact ⟨rfl, ⟨by simpa using h0, fun _ => rfl, Nat.zero_le _, none, 0, HS.out, Nat.le_refl _, .inl rfl⟩, ((Chg.refl (· = b) w).setCell (.inr rfl) _).setCell (.inr rfl) _⟩
set_option maxHeartbeats 400000 in
theorem good_nil (w : World) : Calls Try.prog 34 #[.pointer none] w fun e w' => e = .returned (.bool false) ∧ w = w' := by
  go_enter Try.func34, Try.ntmps34
  go_wp2
  go_ret
  exact ⟨rfl, rfl⟩
set_option maxHeartbeats 400000 in
theorem good_any (b : Nat) (l : List UInt8) (bad : Bool) (w : World) (h : RAt w b l bad) : Calls Try.prog 34 #[.pointer (some ⟨b, 0, none⟩)] w fun e w' => e = .returned (.bool (!bad)) ∧ w = w' := by
  obtain ⟨h0, h1, h2, a, c, h3, h4, h5⟩ := h
  obtain ⟨⟨c0, c1⟩, f0, f1⟩ := two_at h3
  clear h3 h1
  go_enter Try.func34, Try.ntmps34
  go_wp2
  go_ret
  exact ⟨rfl, rfl⟩
set_option maxHeartbeats 400000 in
theorem rlen_nil (w : World) : Calls Try.prog 53 #[.pointer none] w fun e w' => e = .returned (.int .i64 0) ∧ w = w' := by
  go_enter Try.func53, Try.ntmps53
  go_wp2
  go_ret
  exact ⟨rfl, rfl⟩
set_option maxHeartbeats 1000000 in
theorem rlen_any (b : Nat) (l : List UInt8) (bad : Bool) (w : World) (h : RAt w b l bad) : Calls Try.prog 53 #[.pointer (some ⟨b, 0, none⟩)] w fun e w' => e = .returned (.int .i64 (l.length : Int)) ∧ w = w' := by
  obtain ⟨h0, h1, h2, a, c, h3, h4, h5⟩ := h
  obtain ⟨⟨c0, c1⟩, f0, f1⟩ := two_at h3
  clear h3 h1
  have hbs : Calls Try.prog 25 #[.pointer (some ⟨b, 0, none⟩)] w fun e w' => e = .returned (.int .i64 (l.length : Int)) ∧ w = w' := by
    go_enter Try.func25, Try.ntmps25
    go_wp2
    go_ret
    exact ⟨rfl, rfl⟩
  have HB := Lib.hid hbs
  clear hbs c0 c1
  go_enter Try.func53, Try.ntmps53
  go_wp2_with fail
  refine HB.out.mono ?_
  rintro e w1 ⟨rfl, rfl⟩
  go_wp2
  go_ret
  exact ⟨rfl, rfl⟩
/-- What is answered as bytes that were taken. -/
def TakeRet (b : Nat) (out : List UInt8) (e : Ending) (w' : World) : Prop := ∃ a c, e = .returned (.slice a out.length c) ∧ BytesIn w' a out b
/-- What is taken, and what is left. -/
def takeS (n : Nat) (l : List UInt8) (bad : Bool) : List UInt8 × List UInt8 × Bool := if l.length < n then ([], [], true) else if bad then ([], l, bad) else (l.take n, l.drop n, bad)
set_option maxHeartbeats 400000 in
theorem rtake_nil (n : Nat) (w : World) : Calls Try.prog 56 #[.pointer none, .int .i64 (n : Int)] w fun e w' => e = .returned (.slice none 0 0) ∧ w = w' := by
  by_cases hn : 0 < n
  · have hd : decide ((0 : Int) < (n : Int)) = true := decide_eq_true (by omega)
    go_enter Try.func56, Try.ntmps56
    go_wp2_with fail
    refine (rlen_nil _).mono ?_
    rintro e w1 ⟨rfl, rfl⟩
    go_wp2_with fail
    refine (fail_nil _).mono ?_
    rintro e w1 ⟨rfl, rfl⟩
    go_wp2_with fail
    refine (good_nil _).mono ?_
    rintro e w1 ⟨rfl, rfl⟩
    go_wp2
    go_ret
    exact ⟨rfl, rfl⟩
  · have hd : decide ((0 : Int) < (n : Int)) = false := decide_eq_false (by omega)
    go_enter Try.func56, Try.ntmps56
    go_wp2_with fail
    refine (rlen_nil _).mono ?_
    rintro e w1 ⟨rfl, rfl⟩
    go_wp2_with fail
    refine (good_nil _).mono ?_
    rintro e w1 ⟨rfl, rfl⟩
    go_wp2
    go_ret
    exact ⟨rfl, rfl⟩
set_option maxRecDepth 100000 in
set_option maxHeartbeats 2000000 in
theorem rtake_any (b n : Nat) (hn : n ≤ 9223372036854775807) (l : List UInt8) (bad : Bool) (w : World) (h : RAt w b l bad) :
    Calls Try.prog 56 #[.pointer (some ⟨b, 0, none⟩), .int .i64 (n : Int)] w fun e w' => TakeRet b (takeS n l bad).1 e w' ∧ RAt w' b (takeS n l bad).2.1 (takeS n l bad).2.2 ∧ Chg (· = b) w w' := by
  by_cases hlt : l.length < n
  · have hS : takeS n l bad = ([], [], true) := by unfold takeS; rw [if_pos hlt]
    rw [hS]
    have hd : decide ((l.length : Int) < (n : Int)) = true := decide_eq_true (by omega)
    have hd' : decide (l.length < n) = true := decide_eq_true hlt
    clear hS
    have H := Lib.hid h
    clear h
    go_enter Try.func56, Try.ntmps56
    go_wp2_with fail
    refine (rlen_any b l bad _ H.out).mono ?_
    rintro e w1 ⟨rfl, rfl⟩
    go_wp2_with fail
    refine (fail_any b l bad _ H.out).mono ?_
    rintro e w1 ⟨rfl, hR, hC⟩
    have HR := Lib.hid hR
    have HC := Lib.hid hC
    clear hR hC
    go_wp2_with fail
    refine (good_any b [] true _ HR.out).mono ?_
    rintro e w2 ⟨rfl, rfl⟩
    go_wp2
    go_ret
    exact ⟨⟨none, 0, rfl, .inl rfl⟩, HR.out, HC.out⟩
  · have hd : decide ((l.length : Int) < (n : Int)) = false := decide_eq_false (by omega)
    have hd' : decide (l.length < n) = false := decide_eq_false hlt
    cases bad with
    | true =>
      have hS : takeS n l true = ([], l, true) := by unfold takeS; rw [if_neg hlt, if_pos rfl]
      rw [hS]
      clear hS
      have H := Lib.hid h
      clear h
      go_enter Try.func56, Try.ntmps56
      go_wp2_with fail
      refine (rlen_any b l true _ H.out).mono ?_
      rintro e w1 ⟨rfl, rfl⟩
      go_wp2_with fail
      refine (good_any b l true _ H.out).mono ?_
      rintro e w2 ⟨rfl, rfl⟩
      go_wp2
      go_ret
      exact ⟨⟨none, 0, rfl, .inl rfl⟩, H.out, Chg.refl _ _⟩
    | false =>
      have hS : takeS n l false = (l.take n, l.drop n, false) := by unfold takeS; rw [if_neg hlt]; rfl
      rw [hS]
      clear hS
      have H := Lib.hid h
      obtain ⟨h0, h1, h2, a, c, h3, h4, h5⟩ := h
      have hn2 : n ≤ 1073741824 := by omega
      have H3 := Lib.hid h3
      have H5 := Lib.hid h5
      clear h1 h3 h5
      go_enter Try.func56, Try.ntmps56
      go_wp2_with fail
      refine (rlen_any b l false _ H.out).mono ?_
      rintro e w1 ⟨rfl, rfl⟩
      go_wp2_with fail
      refine (good_any b l false _ H.out).mono ?_
      rintro e w2 ⟨rfl, rfl⟩
      obtain ⟨⟨c0, c1⟩, f0, f1⟩ := two_at H3.out
      go_wp2_with fail
      go_quiet (fail)
      obtain ⟨A2, hA2⟩ : ∃ A2, A2 = (if c = n then a else Option.map (fun x => x.add n) a) := ⟨_, rfl⟩
      rw [← hA2]
      have hB2 : BytesIn w A2 (l.drop n) b := by
        by_cases hd : l.drop n = []
        · exact .inl hd
        · rcases H5.out with h | ⟨k, o, hk, hkb, hks, hj⟩
          · subst h; simp at hd
          · have hnl : n < l.length := by
              refine Decidable.byContradiction fun hh => hd (List.drop_eq_nil_of_le (by omega))
            refine .inr ⟨k, o + n, ?_, hkb, hks, fun j u hu => ?_⟩
            · rw [hA2, if_neg (by omega), hk]; simp [Addr.add]
            · rw [List.getElem?_drop] at hu
              have := hj (n + j) u hu
              rw [Nat.add_assoc]; exact this
      have hB1 : BytesIn w a (l.take n) b := by
        rcases H5.out with h | ⟨k, o, hk, hkb, hks, hj⟩
        · subst h; exact .inl (by simp)
        · exact .inr ⟨k, o, hk, hkb, hks, fun j u hu => hj j u (by rw [List.getElem?_take] at hu; split at hu; exact hu; cases hu)⟩
      have hC : Chg (· = b) w ((w.drewN nq).setCell ⟨b, 0, none⟩ (.slice A2 (l.length - n) (c - n))) := ((Chg.refl (· = b) w).drewN nq).setCell (.inr rfl) _
      have hs : ((w.drewN nq).setCell ⟨b, 0, none⟩ (.slice A2 (l.length - n) (c - n))).heap[b]? = some (.cells #[.slice A2 (l.length - n) (c - n), .bool false] 79 (0, 0)) :=
        Lib.heap_setCell_same (i := 0) (show (w.drewN nq).heap[b]? = _ from H3.out) (.slice A2 (l.length - n) (c - n))
      have hb1 := hB1.chg hC
      have hb2 := hB2.chg hC
      have HS := Lib.hid hs
      have HB1 := Lib.hid hb1
      have HB2 := Lib.hid hb2
      have HC := Lib.hid hC
      have htl : (l.take n).length = n := by rw [List.length_take]; omega
      have hdl : (l.drop n).length = l.length - n := List.length_drop
      have HTL := Lib.hid htl
      have HDL := Lib.hid hdl
      clear hA2 hB1 hB2 hs hb1 hb2 hC htl hdl
      go_wp2
      go_ret
      refine ⟨⟨a, c, by rw [HTL.out]; rfl, HB1.out⟩, ⟨by simpa using h0, (fun h => by cases h), by rw [HDL.out]; omega, A2, c - n, by rw [HDL.out]; exact HS.out, by rw [HDL.out]; omega, HB2.out⟩, HC.out⟩
/-- What a byte is, and what is left. -/
def byteS (l : List UInt8) (bad : Bool) : UInt8 × List UInt8 × Bool := match takeS 1 l bad with | ([c], r, x) => (c, r, x) | (_, r, x) => (0, r, x)
theorem byteS_take (l : List UInt8) (bad : Bool) : (∃ c, (takeS 1 l bad).1 = [c] ∧ byteS l bad = (c, (takeS 1 l bad).2.1, (takeS 1 l bad).2.2)) ∨ ((takeS 1 l bad).1 = [] ∧ byteS l bad = (0, (takeS 1 l bad).2.1, (takeS 1 l bad).2.2)) := by
  unfold byteS takeS
  cases l with
  | nil => right; simp
  | cons c t =>
    cases bad with
    | true => right; simp
    | false => left; exact ⟨c, by simp, by simp⟩
set_option maxHeartbeats 1000000 in
theorem byte_any (b : Nat) (l : List UInt8) (bad : Bool) (w : World) (h : RAt w b l bad) :
    Calls Try.prog 66 #[.pointer (some ⟨b, 0, none⟩)] w fun e w' => e = .returned (.int .u8 ((byteS l bad).1.toNat : Int)) ∧ RAt w' b (byteS l bad).2.1 (byteS l bad).2.2 ∧ Chg (· = b) w w' := by
  have ht := rtake_any b 1 (by omega) l bad w h
  rcases byteS_take l bad with ⟨c, h1, h2⟩ | ⟨h1, h2⟩
  · rw [h1] at ht
    rw [h2]
    have HT := Lib.hid ht
    clear ht h1 h2 h
    go_enter Try.func66, Try.ntmps66
    go_wp2_with fail
    refine HT.out.mono ?_
    rintro e w1 ⟨⟨a, c', rfl, hB⟩, hR, hC⟩
    rcases hB with hB | ⟨k, o, rfl, hkb, hks, hj⟩
    · cases hB
    have hc := hj 0 c rfl
    rw [Nat.add_zero] at hc
    have HR := Lib.hid hR
    have HC := Lib.hid hC
    clear hj hR hC HT
    go_wp2
    go_ret
    exact ⟨rfl, HR.out, HC.out⟩
  · rw [h1] at ht
    rw [h2]
    have HT := Lib.hid ht
    clear ht h1 h2 h
    go_enter Try.func66, Try.ntmps66
    go_wp2_with fail
    refine HT.out.mono ?_
    rintro e w1 ⟨⟨a, c', rfl, hB⟩, hR, hC⟩
    have HR := Lib.hid hR
    have HC := Lib.hid hC
    clear hB hR hC HT
    go_wp2
    go_ret
    exact ⟨rfl, HR.out, HC.out⟩
/-- A number's bytes, as they are taken: what goes beyond falls off. -/
def nmod (l : List UInt8) : Nat := l.foldl (fun a c => (a * 256 + c.toNat) % 18446744073709551616) 0
theorem nmod_snoc (l : List UInt8) (c : UInt8) : nmod (l ++ [c]) = (nmod l * 256 + c.toNat) % 18446744073709551616 := by simp [nmod]
theorem nmod_lt (l : List UInt8) : nmod l < 18446744073709551616 := by
  rcases List.eq_nil_or_concat l with rfl | ⟨t, c, rfl⟩
  · decide
  · rw [List.concat_eq_append, nmod_snoc]; exact Nat.mod_lt _ (by omega)
/-- What number takes: the number, what is left. -/
def numberS (most : Nat) (l : List UInt8) (bad : Bool) : Nat × List UInt8 × Bool :=
  let p := byteS l bad
  let q := takeS p.1.toNat p.2.1 p.2.2
  if (digs 8 (nmod q.1)).length = p.1.toNat ∧ nmod q.1 ≤ most then (nmod q.1, q.2.1, q.2.2) else (0, [], true)
theorem or_u64 (A c : Nat) (hc : c < 256) : bits .or .u64 ((A : Int) * 256 % 18446744073709551616) (c : Int) = (((A * 256 + c) % 18446744073709551616 : Nat) : Int) := by
  rw [show (A : Int) * 256 % 18446744073709551616 = ((A * 256 % 18446744073709551616 : Nat) : Int) by omega, u64_or_nat _ _ (by omega) (by omega), nat_join 8 _ _ (by omega) (by omega)]
  omega
set_option maxRecDepth 100000 in
set_option maxHeartbeats 2000000 in
theorem number_any' (b most : Nat) (l : List UInt8) (bad : Bool) (w : World) (h : RAt w b l bad) :
    Calls Try.prog 55 #[.pointer (some ⟨b, 0, none⟩), .int .u64 (most : Int)] w fun e w' => e = .returned (.int .u64 (((numberS most l bad).1 : Nat) : Int)) ∧ RAt w' b (numberS most l bad).2.1 (numberS most l bad).2.2 ∧ Chg (· = b) w w' := by
  have hby := byte_any b l bad w h
  obtain ⟨S, hS⟩ : ∃ S, S = numberS most l bad := ⟨_, rfl⟩
  rw [← hS]
  unfold numberS at hS
  obtain ⟨⟨z, l1, b1⟩, hp⟩ : ∃ p, p = byteS l bad := ⟨_, rfl⟩
  rw [← hp] at hby hS
  simp only at hby hS
  have hz256 := z.toNat_lt
  have htk := fun W hW => rtake_any b z.toNat (by omega) l1 b1 W hW
  obtain ⟨⟨o, l2, b2⟩, hq⟩ : ∃ q, q = takeS z.toNat l1 b1 := ⟨_, rfl⟩
  rw [← hq] at hS
  simp only [← hq] at htk
  have hol : o.length ≤ 256 := by
    have : o = (takeS z.toNat l1 b1).1 := by rw [← hq]
    rw [this]; unfold takeS
    split
    · simp
    · split
      · simp
      · simp only [List.length_take]; omega
  simp only at hS
  have HB := Lib.hid hby
  have HT := Lib.hid htk
  have HS := Lib.hid hS
  have hnl := nmod_lt o
  have hwd := width_any (nmod o) hnl
  have hdl := digs_len_le 8 (nmod o)
  have HW := Lib.hid hwd
  clear hby htk hS hp hq h hwd
  go_enter Try.func55, Try.ntmps55
  go_wp2_with fail
  refine HB.out.mono ?_
  rintro e w1 ⟨rfl, hR1, hC1⟩
  have HR1 := Lib.hid hR1
  have HC1 := Lib.hid hC1
  clear hR1 hC1 HB
  go_wp2_with fail
  refine (HT.out _ HR1.out).mono ?_
  rintro e w2 ⟨⟨a, c, rfl, hB⟩, hR2, hC2⟩
  have HBI := Lib.hid hB
  have HR2 := Lib.hid hR2
  have HC2 := Lib.hid (HC1.out.trans hC2)
  clear hB hR2 hC2 HT HR1 HC1
  go_wp2
  go_loop [6, 16] (fun n i => ∃ k : Nat, k ≤ o.length ∧ i = .int .i64 (k : Int) ∧ n = .int .u64 ((nmod (o.take k) : Nat) : Int)) (fun _ i => o.length - (intOf i).toNat)
  case atStart => exact ⟨0, Nat.zero_le _, rfl, rfl⟩
  case round =>
    obtain ⟨k, hk, rfl, rfl⟩ := hrel
    by_cases hlt : k < o.length
    · have hlt' : decide ((k : Int) < (o.length : Int)) = true := decide_eq_true (by omega)
      have hlt2 : decide (k < o.length) = true := decide_eq_true hlt
      rcases HBI.out with h0 | ⟨kk, oo, rfl, hkb, hks, hj⟩
      · rw [h0] at hlt; simp at hlt
      obtain ⟨u, hu⟩ : ∃ u, o[k]? = some u := ⟨_, List.getElem?_eq_getElem hlt⟩
      have hc := hj k u hu
      have hts : nmod (o.take (k + 1)) = (nmod (o.take k) * 256 + u.toNat) % 18446744073709551616 := by rw [List.take_add_one, hu]; exact nmod_snoc _ _
      have hT := nmod_lt (o.take k)
      have hu256 := u.toNat_lt
      have hor := or_u64 (nmod (o.take k)) u.toNat hu256
      have HTS := Lib.hid hts
      clear hj hu hts
      generalize nmod (o.take k) = T at *
      go_wp2
      go_round
      case rel => exact ⟨k + 1, by omega, by go_num, by rw [HTS.out]; exact congrArg (Value.int IntKind.u64) hor⟩
      case measure => simp [intOf]; omega
    · have hlt' : decide ((k : Int) < (o.length : Int)) = false := decide_eq_false (by omega)
      have hlt2 : decide (k < o.length) = false := decide_eq_false hlt
      have he : o.take k = o := List.take_of_length_le (by omega)
      rw [he]
      have HWd := Lib.hid (HW.out w2)
      generalize nmod o = N at *
      generalize (digs 8 N).length = D at *
      clear he HW
      by_cases hD : D = z.toNat
      · have hD1 : ((D : Int) != (z.toNat : Int)) = false := by rw [hD]; simp
        by_cases hN : N ≤ most
        · have hN1 : decide ((most : Int) < (N : Int)) = false := decide_eq_false (by omega)
          have hN2 : decide (most < N) = false := decide_eq_false (by omega)
          have HS1 : Hid (S = (N, l2, b2)) := by rw [HS.out, if_pos ⟨hD, hN⟩]; exact rfl
          clear hD HS
          go_wp2_with fail
          refine HWd.out.mono ?_
          rintro e w3 ⟨rfl, rfl⟩
          go_wp2
          go_ret
          rw [HS1.out]
          exact ⟨rfl, HR2.out, HC2.out⟩
        · have hN1 : decide ((most : Int) < (N : Int)) = true := decide_eq_true (by omega)
          have hN2 : decide (most < N) = true := decide_eq_true (by omega)
          have HS1 : Hid (S = (0, [], true)) := by rw [HS.out, if_neg (fun h => hN h.2)]; exact rfl
          clear hD HS
          go_wp2_with fail
          refine HWd.out.mono ?_
          rintro e w3 ⟨rfl, rfl⟩
          go_wp2_with fail
          refine (fail_any b l2 b2 _ HR2.out).mono ?_
          rintro e w4 ⟨rfl, hR4, hC4⟩
          have HR4 := Lib.hid hR4
          have HC4 := Lib.hid (HC2.out.trans hC4)
          clear hR4 hC4
          go_wp2
          go_ret
          rw [HS1.out]
          exact ⟨rfl, HR4.out, HC4.out⟩
      · have hD1 : ((D : Int) != (z.toNat : Int)) = true := bne_iff_ne.2 (by omega)
        have HS1 : Hid (S = (0, [], true)) := by rw [HS.out, if_neg (fun h => hD h.1)]; exact rfl
        clear hD HS
        go_wp2_with fail
        refine HWd.out.mono ?_
        rintro e w3 ⟨rfl, rfl⟩
        go_wp2_with fail
        refine (fail_any b l2 b2 _ HR2.out).mono ?_
        rintro e w4 ⟨rfl, hR4, hC4⟩
        have HR4 := Lib.hid hR4
        have HC4 := Lib.hid (HC2.out.trans hC4)
        clear hR4 hC4
        go_wp2
        go_ret
        rw [HS1.out]
        exact ⟨rfl, HR4.out, HC4.out⟩
end Go.Proofs.Ytapcnpocaffeoab
