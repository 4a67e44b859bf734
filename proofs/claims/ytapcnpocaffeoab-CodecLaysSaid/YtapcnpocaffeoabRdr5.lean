/- Contracts of codec's readers: a row of values. -/
import Derived.Test.YtapcnpocaffeoabRdr4
namespace Go.Proofs.Ytapcnpocaffeoab
open Go.RowKit
def rowcs (vs : List Val) : List Value := vs.flatMap fun v => [.int .i64 v.1, .int .i64 v.2.1, .string v.2.2]
theorem rowcs_len (vs : List Val) : (rowcs vs).length = vs.length * 3 := by
  induction vs with
  | nil => rfl
  | cons v t ih =>
    have : rowcs (v :: t) = [.int .i64 v.1, .int .i64 v.2.1, .string v.2.2] ++ rowcs t := rfl
    rw [this, List.length_append, ih, List.length_cons]; simp; omega
theorem rowcs_snoc (vs : List Val) (v : Val) : rowcs (vs ++ [v]) = rowcs vs ++ [.int .i64 v.1, .int .i64 v.2.1, .string v.2.2] := by simp [rowcs]
theorem rowcs_at : ∀ (vs : List Val) (i : Nat) (v : Val), vs[i]? = some v → (rowcs vs)[i * 3]? = some (.int .i64 v.1) ∧ (rowcs vs)[i * 3 + 1]? = some (.int .i64 v.2.1) ∧ (rowcs vs)[i * 3 + 2]? = some (.string v.2.2)
  | [], i, v, h => by simp at h
  | u :: t, 0, v, h => by simp at h; subst h; exact ⟨rfl, rfl, rfl⟩
  | u :: t, i + 1, v, h => by
    obtain ⟨h0, h1, h2⟩ := rowcs_at t i v (by simpa using h)
    have e : rowcs (u :: t) = [.int .i64 u.1, .int .i64 u.2.1, .string u.2.2] ++ rowcs t := rfl
    rw [e]
    refine ⟨?_, ?_, ?_⟩ <;> rw [List.getElem?_append_right (by simp; omega)]
    · rw [← h0]; congr 1; simp; omega
    · rw [← h1]; congr 1; simp; omega
    · rw [← h2]; congr 1; simp; omega
theorem own3_vals {w : World} {B : Nat} {t : TypeId} {a : Option Addr} {n c : Nat} {vs : List Val} (h : w.ownsRow B t 3 (.slice a n c) n (rowcs vs)) : Vals w a vs := by
  by_cases hn : vs = []
  · exact .inl hn
  · rcases h.2 with ⟨hv, h0⟩ | ⟨g, cap, cur, hv, _, hg, _⟩
    · have := h.1; rw [rowcs_len, h0] at this
      exact absurd (List.length_eq_zero_iff.1 (by omega)) hn
    · injection hv with ha hn' hc
      subst ha
      refine .inr ⟨hn, g, 0, rfl, (Array.getElem?_eq_some_iff.1 hg).1, fun i v hi => ?_⟩
      obtain ⟨h0, h1, h2⟩ := rowcs_at vs i v hi
      have hc := fun j u => h.cells (g := g) rfl j u
      have hadd : ∀ j, (⟨g, 0, none⟩ : Addr).add j = ⟨g, j, none⟩ := fun j => by unfold Addr.add; split <;> simp_all
      refine ⟨?_, ?_, ?_⟩
      · have := hc _ _ h0; rw [hadd] at this; simpa using this
      · have := hc _ _ h1; rw [hadd] at this; simpa using this
      · have := hc _ _ h2; rw [hadd] at this; simpa using this
theorem info3_val : (Try.prog.info? 35).map (fun i => (i.zero, i.size, i.bytes)) = some (some (.agg #[.int .i64 0, .int .i64 0, .string ⟨#[]⟩]), 3, 32) := by kernel_rfl
theorem own3_below {w w' : World} {B : Nat} {t : TypeId} {v : Value} {n : Nat} {xs : List Value} (h : w.ownsRow B t 3 v n xs) (hb : Below w.heap.size w w') : w'.ownsRow B t 3 v n xs :=
  h.kept (row := none) ⟨hb.os, hb.tape, hb.output, hb.size, fun k hk _ => hb.block k hk⟩ (by cases hv : v.ownBlock <;> simp)
theorem three_new (w : World) (t : TypeId) (x y z : Value) : ∀ j u, [x, y, z][j]? = some u → (w.alloc (.cells #[x, y, z] t)).cell? ((⟨w.heap.size, 0, none⟩ : Addr).add j) = some u := by
  intro j u hu
  have hadd : (⟨w.heap.size, 0, none⟩ : Addr).add j = ⟨w.heap.size, j, none⟩ := by unfold Addr.add; split <;> simp_all
  rw [hadd]
  have hb : (w.alloc (.cells #[x, y, z] t)).heap[w.heap.size]? = some (.cells #[x, y, z] t (0, 0)) := Array.getElem?_push_size
  rw [Lib.cell_of_heap hb j]
  simpa using hu
theorem takeS_len (n : Nat) (l : List UInt8) (bad : Bool) : (takeS n l bad).2.1.length ≤ l.length := by
  unfold takeS
  split
  · simp
  · split
    · exact Nat.le_refl _
    · simp
theorem takeS_bad (n : Nat) (l : List UInt8) (bad : Bool) (h : bad = true) : (takeS n l bad).2.2 = true := by
  unfold takeS
  split
  · rfl
  · simp [h]
theorem byteS_len (l : List UInt8) (bad : Bool) : (byteS l bad).2.1.length ≤ l.length ∧ ((byteS l bad).2.2 = false → (byteS l bad).2.1.length < l.length) := by
  unfold byteS takeS
  rcases l with _ | ⟨c, r⟩
  · simp
  · cases bad <;> simp
theorem numberS_len (most : Nat) (l : List UInt8) (bad : Bool) : (numberS most l bad).2.1.length ≤ l.length ∧ ((numberS most l bad).2.2 = false → (numberS most l bad).2.1.length < l.length) := by
  obtain ⟨h1, h2⟩ := byteS_len l bad
  have h3 := takeS_len (byteS l bad).1.toNat (byteS l bad).2.1 (byteS l bad).2.2
  have h4 := takeS_bad (byteS l bad).1.toNat (byteS l bad).2.1 (byteS l bad).2.2
  unfold numberS
  simp only
  split
  · refine ⟨Nat.le_trans h3 h1, fun h => Nat.lt_of_le_of_lt h3 (h2 ?_)⟩
    cases hb : (byteS l bad).2.2 with
    | false => rfl
    | true => have := h4 hb; simp only at h; rw [this] at h; cases h
  · exact ⟨by simp, fun h => by cases h⟩
def valsS : Nat → List UInt8 → Bool → List Val × List UInt8 × Bool
  | 0, l, bad => ([], l, bad)
  | n + 1, l, bad => if bad then ([], l, bad) else ((valS l bad).1 :: (valsS n (valS l bad).2.1 (valS l bad).2.2).1, (valsS n (valS l bad).2.1 (valS l bad).2.2).2)
theorem valsS_bad (n : Nat) (l : List UInt8) : valsS n l true = ([], l, true) := by cases n <;> rfl
theorem valsS_good (n : Nat) (l : List UInt8) : valsS (n + 1) l false = ((valS l false).1 :: (valsS n (valS l false).2.1 (valS l false).2.2).1, (valsS n (valS l false).2.1 (valS l false).2.2).2) := rfl
/-- A row that is taken. -/
def rowS (most : Int) (l : List UInt8) (bad : Bool) : List Val × List UInt8 × Bool :=
  let p := sizeS most l bad
  let q := valsS p.1 p.2.1 p.2.2
  if q.2.2 then ([], q.2) else q
theorem own3_chg {w w' : World} {B b : Nat} {t : TypeId} {v : Value} {n : Nat} {xs : List Value} (h : w.ownsRow B t 3 v n xs) (hc : Chg (· = b) w w') (hb : b < B) : w'.ownsRow B t 3 v n xs :=
  h.kept (row := some b) ⟨hc.os, hc.tape, hc.output, hc.size, fun k hk hne => hc.block k hk (fun e => hne (by rw [e]))⟩ (by
    by_cases e : v.ownBlock = some b
    · have := (h.lt b e).1; omega
    · exact .inr e)
theorem textS_len (l : List UInt8) (bad : Bool) : (textS 200 l bad).2.1.length ≤ l.length ∧ ((textS 200 l bad).2.2 = false → (textS 200 l bad).2.1.length < l.length) := by
  have h0 := numberS_len 200 l bad
  have e : sizeS 200 l bad = numberS 200 l bad := by unfold sizeS; rw [if_neg (by omega)]; rfl
  unfold textS
  rw [e]
  generalize numberS 200 l bad = q at h0
  obtain ⟨h3, h4⟩ := h0
  have h5 := takeS_len q.1 q.2.1 q.2.2
  have h6 := takeS_bad q.1 q.2.1 q.2.2
  refine ⟨Nat.le_trans h5 h3, fun h => Nat.lt_of_le_of_lt h5 (h4 ?_)⟩
  cases hb : q.2.2 with
  | false => rfl
  | true => rw [h6 hb] at h; cases h
theorem signedS_len (l : List UInt8) (bad : Bool) : (signedS l bad).2.1.length ≤ l.length ∧ ((signedS l bad).2.2 = false → (signedS l bad).2.1.length < l.length) := by
  have h0 := numberS_len 18446744073709551615 l bad
  unfold signedS
  generalize numberS 18446744073709551615 l bad = q at h0
  exact h0
theorem valueS_len (l : List UInt8) (bad : Bool) : (valueS l bad).2.1.length ≤ l.length ∧ ((valueS l bad).2.2 = false → (valueS l bad).2.1.length < l.length) := by
  obtain ⟨h1, h2⟩ := byteS_len l bad
  unfold valueS
  generalize byteS l bad = p at h1 h2
  obtain ⟨c, r, x⟩ := p
  simp only at h1 h2 ⊢
  have hs := signedS_len r x
  have ht := textS_len r x
  have hb := byteS_len r x
  generalize signedS r x = S at hs
  generalize textS 200 r x = T at ht
  generalize byteS r x = B at hb
  by_cases c1 : c = 1
  · rw [if_pos c1]; exact ⟨Nat.le_trans hs.1 h1, fun h => Nat.lt_of_lt_of_le (hs.2 h) h1⟩
  · rw [if_neg c1]
    by_cases c2 : c = 2
    · rw [if_pos c2]; exact ⟨Nat.le_trans ht.1 h1, fun h => Nat.lt_of_lt_of_le (ht.2 h) h1⟩
    · rw [if_neg c2]
      by_cases c3 : c = 3
      · rw [if_pos c3]; exact ⟨Nat.le_trans hb.1 h1, fun h => Nat.lt_of_lt_of_le (hb.2 h) h1⟩
      · rw [if_neg c3]; exact ⟨h1, h2⟩
theorem valS_len (l : List UInt8) (bad : Bool) : (valS l bad).2.1.length ≤ l.length ∧ ((valS l bad).2.2 = false → (valS l bad).2.1.length < l.length) := by
  have h := valueS_len l bad
  unfold valS
  simp only
  split
  · split <;> exact h
  · exact ⟨by simp, fun h => by cases h⟩
theorem RAt.grown {w w' : World} {b : Nat} {l : List UInt8} {bad : Bool} {row : Option Nat} (h : RAt w b l bad) (hg : w.grownBy w' row) (hb : row ≠ some b)
    (hr : ∀ k, row = some k → ∃ cs e, w.heap[k]? = some (.cells cs e (0, 0)) ∧ e ≠ 5) : RAt w' b l bad := by
  obtain ⟨h0, h1, h2, a, c, h3, h4, h5⟩ := h
  refine ⟨Nat.lt_of_lt_of_le h0 hg.size, h1, h2, a, c, (hg.block b h0 (Ne.symm hb)).trans h3, h4, ?_⟩
  rcases h5 with h | ⟨k, o, hk, hkb, ⟨hks, cs, cl, ht⟩, hj⟩
  · exact .inl h
  · have hne : some k ≠ row := fun e => by
      obtain ⟨cs', e', h', hne⟩ := hr k e.symm
      rw [h'] at ht
      injection ht with ht
      injection ht with _ ht
      exact hne ht
    have hbk := hg.block k hks hne
    exact .inr ⟨k, o, hk, hkb, ⟨Nat.lt_of_lt_of_le hks hg.size, cs, cl, hbk.trans ht⟩, fun j u hu => (World.cell?_of_block hbk).trans (hj j u hu)⟩
theorem own3_row {w : World} {B : Nat} {t : TypeId} {v : Value} {n : Nat} {xs : List Value} (h : w.ownsRow B t 3 v n xs) (k : Nat) (hk : v.ownBlock = some k) : ∃ cs, w.heap[k]? = some (.cells cs t (0, 0)) := by
  rcases h.2 with ⟨hv, _⟩ | ⟨g, cap, cur, hv, _, hg, _⟩
  · rw [hv] at hk; cases hk
  · rw [hv] at hk; injection hk with hk; subst hk; exact ⟨cur, hg⟩
theorem own3_fresh {w : World} {B : Nat} {t : TypeId} {k : Nat} {a : Option Addr} {n c : Nat} {xs : List Value} (h : w.ownsRow B t k (.slice a n c) n xs) : ∀ y, a = some y → B ≤ y.block := by
  rintro y rfl
  rcases h.2 with ⟨hv, _⟩ | ⟨g, cap, cur, hv, hB, _⟩
  · cases hv
  · injection hv with hv; injection hv with hv; rw [hv]; exact hB
def RowRet (B : Nat) (vs : List Val) (e : Ending) (w' : World) : Prop := ∃ a c, e = .returned (.slice a vs.length c) ∧ Vals w' a vs ∧ (vs ≠ [] → ∀ y, a = some y → B ≤ y.block)
def lenOf : Value → Nat
  | .slice _ n _ => n
  | _ => 0
set_option maxRecDepth 100000 in
set_option maxHeartbeats 2000000 in
theorem rlist_any (b : Nat) (most : Int) (h1 : most ≤ 9223372036854775807) (l : List UInt8) (bad : Bool) (w : World) (h : RAt w b l bad) :
    Calls Try.prog 59 #[.pointer (some ⟨b, 0, none⟩), .int .i64 most, .func (.func 47) #[.pointer (some ⟨b, 0, none⟩)] #[]] w fun e w' =>
      RowRet w.heap.size (rowS most l bad).1 e w' ∧ RAt w' b (rowS most l bad).2.1 (rowS most l bad).2.2 ∧ Chg (· = b) w w' := by
  obtain ⟨i0, hi, iz0, iz1, iz2⟩ := info_parts info3_val
  have hb0 : b < w.heap.size := h.1
  have hl30 := h.2.2.1
  have hsz := rsize_any b most h1 l bad w h
  obtain ⟨S, hS⟩ : ∃ S, S = rowS most l bad := ⟨_, rfl⟩
  rw [← hS]
  unfold rowS at hS
  have hn := sizeS_le most h1 l bad
  have hln : (sizeS most l bad).2.1.length ≤ l.length := by
    unfold sizeS
    split
    · simp
    · exact (numberS_len _ l bad).1
  obtain ⟨⟨N, l1, b1⟩, hp⟩ : ∃ p, p = sizeS most l bad := ⟨_, rfl⟩
  rw [← hp] at hsz hS hn hln
  simp only at hsz hS hn hln
  obtain ⟨T, hT⟩ : ∃ T, T = valsS N l1 b1 := ⟨_, rfl⟩
  rw [← hT] at hS
  have HS := Lib.hid hS
  have HT := Lib.hid hT
  have HSZ := Lib.hid hsz
  clear hS hT hsz hp h
  go_enter Try.func59, Try.ntmps59
  go_wp2_with fail
  refine HSZ.out.mono ?_
  rintro e w2 ⟨rfl, hR2, hC2⟩
  have HR2 := Lib.hid hR2
  have HC2 := Lib.hid hC2
  clear hR2 hC2 HSZ
  go_wp2
  go_loopw [8] (fun sl wr => ∃ (done : List Val) (a : Option Addr) (c : Nat) (l2 : List UInt8) (b2 : Bool), sl = .slice a done.length c ∧ wr.ownsRow w.heap.size 35 3 (.slice a done.length c) done.length (rowcs done) ∧ RAt wr b l2 b2 ∧ Chg (· = b) w wr ∧ done.length ≤ N ∧ done.length ≤ 1073741825 ∧ (b2 = false → done.length + l2.length ≤ 1073741824) ∧ Hid (T = (done ++ (valsS (N - done.length) l2 b2).1, (valsS (N - done.length) l2 b2).2))) (fun sl _ => N - lenOf sl)
  case atStart => exact ⟨[], none, 0, l1, b1, rfl, World.ownsRow_nil _ _ _ _, HR2.out, HC2.out, Nat.zero_le _, by simp, fun _ => by simp; omega, HT⟩
  case round =>
    obtain ⟨done, a, c, l2, b2, rfl, hown, hR, hC, hdN, hd1, hd2, hTT⟩ := hrel
    have HG := Lib.hid (good_any b l2 b2 wr hR)
    have HO := Lib.hid hown
    have HRR := Lib.hid hR
    have HCC := Lib.hid hC
    have HD2 := Lib.hid hd2
    clear hown hR hC hd2
    cases hb2 : b2 with
    | true =>
      subst hb2
      have HS1 : Hid (S = ([], l2, true)) := by
        have := hTT.out
        rw [valsS_bad] at this
        rw [HS.out, this]; rfl
      clear hTT HS HD2
      go_wp2_with fail
      refine HG.out.mono ?_
      rintro e w3 ⟨rfl, hE⟩
      subst hE
      go_wp2_with fail
      refine HG.out.mono ?_
      rintro e w3 ⟨rfl, hE⟩
      subst hE
      go_wp2
      go_ret
      rw [HS1.out]
      exact ⟨⟨none, 0, rfl, .inl rfl, fun h => absurd rfl h⟩, HRR.out, HCC.out⟩
    | false =>
      subst hb2
      by_cases hlt : done.length < N
      · have hlt' : decide ((done.length : Int) < (N : Int)) = true := decide_eq_true (by omega)
        have hval := rvalue_any b l2 false wr HRR.out
        have hvl := valS_len l2 false
        have hTn := hTT.out
        rw [show N - done.length = (N - (done.length + 1)) + 1 by omega, valsS_good] at hTn
        obtain ⟨⟨⟨k, n, s⟩, l3, b3⟩, hp⟩ : ∃ p, p = valS l2 false := ⟨_, rfl⟩
        rw [← hp] at hval hvl hTn
        simp only [vagg] at hval hvl hTn
        have hd3 := HD2.out rfl
        have HTN : Hid (T = ((done ++ [(k, n, s)]) ++ (valsS (N - (done.length + 1)) l3 b3).1, (valsS (N - (done.length + 1)) l3 b3).2)) := by
          rw [hTn]; simp [Hid]
        have HVL := Lib.hid hvl.2
        have hvl1 := hvl.1
        have HVV := Lib.hid hval
        clear hval hvl hTn hTT hp HD2
        go_wp2_with fail
        refine HG.out.mono ?_
        rintro e w3 ⟨rfl, hE⟩
        subst hE
        go_wp2_with fail
        refine HVV.out.mono ?_
        rintro e w4 ⟨rfl, hR4, hC4⟩
        have hz4 := hC4.size
        have hzr := HCC.out.size
        have HO4 := Lib.hid (own3_chg HO.out hC4 hb0)
        have HR4 := Lib.hid hR4
        have HC4 := Lib.hid (HCC.out.trans hC4)
        have hlt4 := (HO4.out.lt)
        clear hR4 hC4 HO HRR HCC HG HVV
        go_wp2_with (at_builtin; refine wpList_append_lies _ rfl (.tmp 20) (.tmp 23) 25 rfl w.heap.size 35 i0 (.agg #[.int .i64 0, .int .i64 0, .string ⟨#[]⟩]) 3 32 Try.underlying25 hi iz0 iz1 iz2 rfl (by decide) _ done.length (rowcs done) rfl (HO4.out.alloc _) ⟨w4.heap.size, 0, none⟩ 1 1 [.int .i64 k, .int .i64 n, .string s] rfl rfl (three_new _ _ _ _ _) ?c1 (by decide) ?c2 ?c3 ?c4 (w4.heap.size + 1) ?c5 ?_)
        case c1 => simp [Value.oneCell']
        case c2 => unfold maxLen; omega
        case c3 => omega
        case c4 => simp; omega
        case c5 => simp
        intro g cap w5 hown5 hgrow hat hgl
        have hA4 : Below w4.heap.size w4 (w4.alloc (.cells #[.int .i64 k, .int .i64 n, .string s] 35)) := (Below.refl _ _).alloc (Nat.le_refl _) _
        have hC5 : Chg (· = b) w w5 := (HC4.out.thenB hA4).grown hgrow (fun k hk => .inl (hlt4 k hk).1)
        have hR5 : RAt w5 b l3 b3 := by
          refine (HR4.out.below hA4).grown hgrow (fun e => by have := (hlt4 b e).1; omega) (fun k' hk' => ?_)
          obtain ⟨cs, hcs⟩ := own3_row (HO4.out.alloc (.cells #[.int .i64 k, .int .i64 n, .string s] 35)) k' hk'
          exact ⟨cs, _, hcs, by decide⟩
        have HO5 := Lib.hid hown5
        have HR5 := Lib.hid hR5
        have HC5 := Lib.hid hC5
        clear hown5 hgrow hat hgl hA4 hC5 hR5 HO4 HR4 HC4 hlt4
        go_wp2
        go_roundw
        case rel =>
          refine ⟨done ++ [(k, n, s)], some ⟨g, 0, none⟩, cap, l3, b3, by rw [List.length_append]; rfl, ?_, HR5.out, HC5.out, ?_, ?_, ?_, ?_⟩
          · rw [rowcs_snoc, List.length_append]; exact HO5.out
          · rw [List.length_append]; exact hlt
          · simp; omega
          · intro hb3; have := HVL.out hb3; simp; omega
          · rw [List.length_append]; exact HTN
        case measure => simp [lenOf]; omega
      · have hlt' : decide ((done.length : Int) < (N : Int)) = false := decide_eq_false (by omega)
        have HS1 : Hid (S = (done, l2, false)) := by
          have := hTT.out
          rw [show N - done.length = 0 by omega] at this
          rw [HS.out, this]; simp [valsS, Hid]
        clear hTT HS HD2
        go_wp2_with fail
        refine HG.out.mono ?_
        rintro e w3 ⟨rfl, hE⟩
        subst hE
        go_wp2_with fail
        refine HG.out.mono ?_
        rintro e w3 ⟨rfl, hE⟩
        subst hE
        go_wp2
        go_ret
        rw [HS1.out]
        exact ⟨⟨a, c, rfl, own3_vals HO.out, fun _ => own3_fresh HO.out⟩, HRR.out, HCC.out⟩
set_option maxHeartbeats 1000000 in
theorem rrow_any (b : Nat) (most : Int) (h1 : most ≤ 9223372036854775807) (l : List UInt8) (bad : Bool) (w : World) (h : RAt w b l bad) :
    Calls Try.prog 36 #[.pointer (some ⟨b, 0, none⟩), .int .i64 most] w fun e w' =>
      RowRet w.heap.size (rowS most l bad).1 e w' ∧ RAt w' b (rowS most l bad).2.1 (rowS most l bad).2.2 ∧ Chg (· = b) w w' := by
  have HL := Lib.hid (rlist_any b most h1 l bad w h)
  go_enter Try.func36, Try.ntmps36
  go_wp2_with fail
  refine HL.out.mono ?_
  rintro e w2 ⟨⟨a, c, rfl, hv⟩, hR, hC⟩
  have HV := Lib.hid hv
  have HR := Lib.hid hR
  have HC := Lib.hid hC
  clear hv hR hC HL
  go_wp2
  go_ret
  exact ⟨⟨a, c, rfl, HV.out⟩, HR.out, HC.out⟩
end Go.Proofs.Ytapcnpocaffeoab
