/- ValueKeys: any row's key; any bytes' row. -/
import Derived.Test.YtfoejfneggcncaaDoorRefUnk
import Derived.Test.YtfoejfneggcncaaDoorGreat
import Derived.Test.YtfoejfneggcncaaDoorSame
import Derived.Test.YtfoejfneggcncaaDoorAwake2
import Derived.Test.YtfoejfneggcncaaDoorRdVal
namespace Go.Proofs.YtfoejfneggcncaaDoor
open Go.RowKit
/-- What a way back from a key is, in a walk: the row and the truth. -/
theorem unkret_cases {o : Option (List Val)} {e : Ending} {w' : World} (h : UnkRet o e w') : ∃ (vs : List Val) (a : Option Addr) (c : Nat) (ok : Bool), e = .returned (.tuple #[.slice a vs.length c, .bool ok]) ∧ Vals w' a vs ∧ vs = o.getD [] ∧ ok = o.isSome := by
  cases o with
  | none => exact ⟨[], none, 0, false, h, .inl rfl, rfl, rfl⟩
  | some vs =>
    obtain ⟨a, c, h1, h2⟩ := h
    exact ⟨vs, a, c, true, h1, h2, rfl, rfl⟩
theorem unk_len : ∀ (f : Nat) (l : List UInt8) (vs : List Val), unk f l = some vs → vs.length ≤ l.length
  | f, [], vs, h => by rw [unk_nil] at h; injection h with h; subst h; simp
  | 0, k :: r, vs, h => by simp [unk] at h
  | f + 1, k :: r, vs, h => by
    simp only [unk] at h
    cases hc : vcut (k :: r) with
    | none => rw [hc] at h; cases h
    | some p =>
      rw [hc] at h
      simp only at h
      cases hv : vright p.1 with
      | false => rw [hv] at h; cases h
      | true =>
        rw [hv] at h
        simp only [if_true] at h
        cases hu : unk f p.2 with
        | none => rw [hu] at h; cases h
        | some q =>
          rw [hu] at h
          injection h with h
          subst h
          have h1 := unk_len f p.2 q hu
          have h2 := vcut_len k r p hc
          simp only [List.length_cons]; omega
set_option maxRecDepth 100000 in
set_option maxHeartbeats 4000000 in
theorem keys_walk (v0 : Value) (us : List Val) (v1 : Value) (s : ByteArray) (w : World) (y0 : VArg w v0 us) (y1 : v1 = .string s ∧ s.size ≤ maxLen) (hmx : IntCell w 1) :
    Calls Tryd.prog 3 #[v0, v1] w fun e w' => e = .returned (.bool true) ∧ Below w.heap.size w w' := by
  obtain ⟨a, m, c, rfl, hl, hmc, hcm, hu, hok⟩ := y0
  obtain ⟨rfl, hsm⟩ := y1
  unfold maxLen at hsm
  have HL := Lib.hid hl
  have HM := Lib.hid hmx
  have HU := Lib.hid hu
  have HOK := Lib.hid hok
  have hmx' : m ≤ maxLen := by omega
  clear hl hmx hok hu
  cases hg : greatB us with
  | true =>
    have HG := Lib.hid hg
    clear hg
    go_enter Tryd.func3, Tryd.ntmps3
    go_wp2_with fail
    refine (great_any a m c us _ HL.out hmx' HU.out HOK.out).mono ?_
    rintro e w' ⟨rfl, rfl⟩
    rw [HG.out]
    go_wp2_with fail
    refine (awake2_any _ HM.out).mono ?_
    rintro e wz ⟨rfl, hbz⟩
    go_wp2
    go_ret
    exact ⟨rfl, hbz⟩
  | false =>
    have HG := Lib.hid hg
    have hm30 := (great_not hg).1
    rw [HL.out] at hm30
    clear hg
    by_cases hbig : 2000 < s.size
    · have hd : decide ((2000 : Int) < (s.size : Int)) = true := decide_eq_true (by omega)
      go_enter Tryd.func3, Tryd.ntmps3
      go_wp2_with fail
      refine (great_any a m c us _ HL.out hmx' HU.out HOK.out).mono ?_
      rintro e w' ⟨rfl, rfl⟩
      rw [HG.out]
      go_wp2_with fail
      refine (awake2_any _ HM.out).mono ?_
      rintro e wz ⟨rfl, hbz⟩
      go_wp2
      go_ret
      exact ⟨rfl, hbz⟩
    · have hd : decide ((2000 : Int) < (s.size : Int)) = false := decide_eq_false (by omega)
      have hul : ((unk s.size s.data.toList).getD []).length ≤ 2000 := by
        cases h : unk s.size s.data.toList with
        | none => simp
        | some vs => have := unk_len _ _ _ h; rw [← Lib.size_eq] at this; simp only [Option.getD_some]; omega
      have hkey := fun W hv => key_any a m c us W HL.out (by omega) hv HOK.out
      have HKEY := Lib.hid hkey
      clear hkey
      cases ha : us.all vright with
      | true =>
        have hrk : rowKey us = vkeys us := by unfold rowKey; rw [if_pos ha]
        have HRK := Lib.hid hrk
        have HA := Lib.hid ha
        clear ha hrk
        go_enter Tryd.func3, Tryd.ntmps3
        go_wp2_with fail
        refine (great_any a m c us _ HL.out hmx' HU.out HOK.out).mono ?_
        rintro e w' ⟨rfl, rfl⟩
        rw [HG.out]
        go_wp2_with fail
        refine (rall_any a m c us _ HL.out (by omega) HU.out).mono ?_
        rintro e wa ⟨rfl, hba⟩
        rw [HA.out]
        go_wp2_with fail
        refine (rkeys_any a m c us _ HL.out (by omega) (HU.out.below hba) HOK.out HA.out).mono ?_
        rintro e wk ⟨rfl, hbk⟩
        have hB1 := Below.thenB hba hba.size hbk
        obtain ⟨K, hK⟩ : ∃ K : ByteArray, K = ⟨(vkeys us).toArray⟩ := ⟨_, rfl⟩
        rw [← hK]
        have HK := Lib.hid hK
        clear hK hba hbk
        go_wp2_with fail
        refine (unkey_any s (by omega) _ (HM.out.below hB1)).mono ?_
        rintro e w2 ⟨hret, hb2⟩
        obtain ⟨vs, a2, c2, ok, rfl, hV, hvs, hokk⟩ := unkret_cases hret
        have hB2 := Below.thenB hB1 hB1.size hb2
        have HV := Lib.hid hV
        have HVS := Lib.hid hvs
        have HOKK := Lib.hid hokk
        clear hret hV hvs hokk hb2
        go_wp2_with fail
        refine (runkey_any s (by omega) _).mono ?_
        rintro e w3 ⟨hret, hb3⟩
        obtain ⟨vs', a3, c3, ok', rfl, hV', hvs', hokk'⟩ := unkret_cases hret
        have hB3 := Below.thenB hB2 hB2.size hb3
        obtain rfl : vs' = vs := hvs'.trans HVS.out.symm
        obtain rfl : ok' = ok := hokk'.trans HOKK.out.symm
        have hvl : vs'.length ≤ 2000 := by rw [HVS.out]; exact hul
        have HV1 := Lib.hid (HV.out.below hb3)
        have HV' := Lib.hid hV'
        clear hret hV' hvs' hokk' hb3 HV HOKK
        obtain ⟨n, hn⟩ : ∃ n, n = vs'.length := ⟨_, rfl⟩
        rw [← hn] at hvl ⊢
        have HN := Lib.hid hn.symm
        clear hn
        go_wp2_with fail
        refine (HKEY.out _ (HU.out.below hB3)).mono ?_
        rintro e w4 ⟨rfl, hb4⟩
        have hB4 := Below.thenB hB3 hB3.size hb4
        rw [HRK.out, ← HK.out]
        go_wp2_with fail
        refine (same_any a2 a3 n c2 n c3 vs' vs' _ HN.out HN.out (by omega) (by omega) (HV1.out.below hb4) (HV'.out.below hb4)).mono ?_
        rintro e w5 ⟨rfl, hb5⟩
        have hB5 := Below.thenB hB4 hB4.size hb5
        rw [show vsame vs' vs' = true by simp [vsame]]
        go_wp2_with fail
        refine (awake2_any _ (HM.out.below hB5)).mono ?_
        rintro e wz ⟨rfl, hbz⟩
        go_wp2
        go_ret
        exact ⟨rfl, Below.thenB hB5 hB5.size hbz⟩
      | false =>
        have hrk : rowKey us = [] := by unfold rowKey; rw [if_neg (by rw [ha]; simp)]
        have HRK := Lib.hid hrk
        have HA := Lib.hid ha
        clear ha hrk
        go_enter Tryd.func3, Tryd.ntmps3
        go_wp2_with fail
        refine (great_any a m c us _ HL.out hmx' HU.out HOK.out).mono ?_
        rintro e w' ⟨rfl, rfl⟩
        rw [HG.out]
        go_wp2_with fail
        refine (rall_any a m c us _ HL.out (by omega) HU.out).mono ?_
        rintro e wa ⟨rfl, hB1⟩
        rw [HA.out]
        go_wp2_with fail
        refine (unkey_any s (by omega) _ (HM.out.below hB1)).mono ?_
        rintro e w2 ⟨hret, hb2⟩
        obtain ⟨vs, a2, c2, ok, rfl, hV, hvs, hokk⟩ := unkret_cases hret
        have hB2 := Below.thenB hB1 hB1.size hb2
        have HV := Lib.hid hV
        have HVS := Lib.hid hvs
        have HOKK := Lib.hid hokk
        clear hret hV hvs hokk hb2
        go_wp2_with fail
        refine (runkey_any s (by omega) _).mono ?_
        rintro e w3 ⟨hret, hb3⟩
        obtain ⟨vs', a3, c3, ok', rfl, hV', hvs', hokk'⟩ := unkret_cases hret
        have hB3 := Below.thenB hB2 hB2.size hb3
        obtain rfl : vs' = vs := hvs'.trans HVS.out.symm
        obtain rfl : ok' = ok := hokk'.trans HOKK.out.symm
        have hvl : vs'.length ≤ 2000 := by rw [HVS.out]; exact hul
        have HV1 := Lib.hid (HV.out.below hb3)
        have HV' := Lib.hid hV'
        clear hret hV' hvs' hokk' hb3 HV HOKK
        obtain ⟨n, hn⟩ : ∃ n, n = vs'.length := ⟨_, rfl⟩
        rw [← hn] at hvl ⊢
        have HN := Lib.hid hn.symm
        clear hn
        go_wp2_with fail
        refine (HKEY.out _ (HU.out.below hB3)).mono ?_
        rintro e w4 ⟨rfl, hb4⟩
        have hB4 := Below.thenB hB3 hB3.size hb4
        rw [HRK.out]
        go_wp2_with fail
        refine (same_any a2 a3 n c2 n c3 vs' vs' _ HN.out HN.out (by omega) (by omega) (HV1.out.below hb4) (HV'.out.below hb4)).mono ?_
        rintro e w5 ⟨rfl, hb5⟩
        have hB5 := Below.thenB hB4 hB4.size hb5
        rw [show vsame vs' vs' = true by simp [vsame]]
        go_wp2_with fail
        refine (awake2_any _ (HM.out.below hB5)).mono ?_
        rintro e wz ⟨rfl, hbz⟩
        go_wp2
        go_ret
        exact ⟨rfl, Below.thenB hB5 hB5.size hbz⟩
end Go.Proofs.YtfoejfneggcncaaDoor
