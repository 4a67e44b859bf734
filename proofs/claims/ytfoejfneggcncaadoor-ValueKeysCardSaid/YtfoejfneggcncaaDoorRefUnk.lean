/- The document's way back from keys: contract of ref02's Unkey. -/
import Derived.Test.YtfoejfneggcncaaDoorRefKey
import Derived.Test.YtfoejfneggcncaaDoorRV
namespace Go.Proofs.YtfoejfneggcncaaDoor
open Go.RowKit
theorem rscan_cons (c d : UInt8) (t : List UInt8) : rscan (c :: d :: t) = if c = 0 then (if d = 1 then [] else 0 :: rscan t) else c :: rscan (d :: t) := rfl
/-- What the document's way back has at a round's head. -/
def UnkRel (R : Option (List Val)) (w : World) (i sl : Value) (wr : World) : Prop :=
  ∃ (f : Nat) (x : List UInt8) (done : List Val) (a : Option Addr) (c : Nat), i = .string ⟨x.toArray⟩ ∧ sl = .slice a done.length c ∧ x.length ≤ f ∧ done.length + x.length ≤ 100000 ∧ Hid (R = (unk f x).map fun p => done ++ p) ∧ wr.ownsRow w.heap.size 54 3 (.slice a done.length c) done.length (vcells done) ∧ Below w.heap.size w wr
set_option maxRecDepth 100000 in
set_option maxHeartbeats 8000000 in
theorem runkey_any (s : ByteArray) (hs : s.size ≤ 100000) (w : World) :
    Calls Tryd.prog 12 #[.string s] w fun e w' => UnkRet (unk s.size s.data.toList) e w' ∧ Below w.heap.size w w' := by
  obtain ⟨i0, hi, iz0, iz1, iz2⟩ := info_parts info_val
  obtain ⟨j0, hjj, jz0, jz1, jz2⟩ := info_parts info_b8
  obtain ⟨R, hR⟩ : ∃ R, R = unk s.size s.data.toList := ⟨_, rfl⟩
  rw [← hR]
  have hR0 : Hid (R = (unk s.size s.data.toList).map fun p => ([] : List Val) ++ p) := by
    rw [hR]; cases unk s.size s.data.toList <;> simp [Hid]
  have hlen0 : ([] : List Val).length + s.data.toList.length ≤ 100000 := by rw [← Lib.size_eq]; simpa using hs
  clear hR
  go_enter Tryd.func12, Tryd.ntmps12
  go_wp2
  go_loopw [0, 4] (fun i sl wr => UnkRel R w i sl wr) (fun i _ _ => match i with | .string s => s.size | _ => 0)
  case atStart =>
    exact ⟨s.size, s.data.toList, [], none, 0, congrArg Value.string (ba_eq s _ rfl), rfl, by rw [← Lib.size_eq]; exact Nat.le_refl _, hlen0, hR0, World.ownsRow_nil _ _ _ _, Below.refl _ _⟩
  case round =>
    obtain ⟨f, x, done, a, c, rfl, rfl, hf, hlen, hR, hown, hbel⟩ := hrel
    have hszr := hbel.size
    rcases x with _ | ⟨k, r⟩
    · have hRn : R = some done := by rw [hR.out, unk_nil]; simp
      have HO := Lib.hid hown
      clear hR
      go_wp2
      go_ret2
      rw [hRn]
      exact ⟨⟨a, c, rfl, own_vals HO.out⟩, hbel⟩
    · obtain ⟨f, rfl⟩ : ∃ g, f = g + 1 := ⟨f - 1, by simp at hf; omega⟩
      have HO := Lib.hid hown
      obtain ⟨X, hX⟩ : ∃ X : ByteArray, X = ⟨(k :: r).toArray⟩ := ⟨_, rfl⟩
      rw [← hX]
      have hXs : X.size = r.length + 1 := by rw [hX, ba_len]; rfl
      have hX0 : 0 < X.size := by omega
      have hXk : X[0] = k := by subst hX; rfl
      have hk256 := k.toNat_lt
      have hXi : ((X[0]'hX0).toNat : Int) = (k.toNat : Int) := by rw [hXk]
      have hpos : decide ((0 : Int) < (X.size : Int)) = true := decide_eq_true (by omega)
      have HXS := Lib.hid hXs
      have HX := Lib.hid hX
      have HXI := Lib.hid hXi
      clear hown hXs hX hXk hXi
      by_cases hk1 : k = 1 ∧ 8 ≤ r.length
      · obtain ⟨hk1, hr8⟩ := hk1
        have e1 : ((X[0].toNat : Int) == 1) = true := by rw [HXI.out, hk1]; rfl
        have e2 : ((X[0].toNat : Int) == 2) = false := by rw [HXI.out, hk1]; rfl
        have e3 : ((X[0].toNat : Int) == 3) = false := by rw [HXI.out, hk1]; rfl
        have e4 : decide ((9 : Int) ≤ (X.size : Int)) = true := decide_eq_true (by rw [HXS.out]; omega)
        have e5 : (X[0].toNat : Int) = 1 := by have := HXI.out; rw [hk1] at this; simpa using this
        have hX9 : 9 ≤ X.size := by rw [HXS.out]; omega
        have hcd : cand k r = some (1, (num8 (r.take 8) : Int) - 9223372036854775808, ⟨#[]⟩) := by
          unfold cand
          rw [if_pos ⟨hk1, hr8⟩]
        have hn8 := num8_lt 8 (r.take 8) (by rw [List.length_take]; omega)
        have hnb : num8 (r.take 8) < 18446744073709551616 := by simpa using hn8
        have hat : ∀ j (hj : j < 8), num8 (r.take (j + 1)) = num8 (r.take j) * 256 + (X[j + 1]'(by omega)).toNat ∧ num8 (r.take (j + 1)) < 18446744073709551616 := by
          intro j hj
          have hjr : j < r.length := by omega
          have h1 : X[j + 1]'(by omega) = r[j] := by
            have : X.data.toList[j + 1]'(by rw [← Lib.size_eq]; omega) = r[j] := by
              simp only [HX.out]; rfl
            exact this
          rw [h1, List.take_succ_eq_append_getElem hjr, num8_snoc]
          refine ⟨rfl, ?_⟩
          have h2 := num8_lt (j + 1) (r.take (j + 1)) (by rw [List.length_take]; omega)
          rw [List.take_succ_eq_append_getElem hjr, num8_snoc] at h2
          exact Nat.lt_of_lt_of_le h2 (by have : (256 : Nat) ^ (j + 1) ≤ 256 ^ 8 := Nat.pow_le_pow_right (by omega) (by omega); simpa using this)
        have HAT := Lib.hid hat
        have HCD := Lib.hid hcd
        clear hcd hn8 hk1 hat hR0 hlen0 HXI
        go_wp2_with fail
        go_loop [6, 7] (fun u i => ∃ j : Nat, j ≤ 8 ∧ i = .int .i64 ((j + 1 : Nat) : Int) ∧ u = .int .u64 ((num8 (r.take j) : Nat) : Int)) (fun _ i => 9 - (intOf i).toNat)
        case atStart => exact ⟨0, by omega, rfl, rfl⟩
        case round =>
          obtain ⟨j, hj, rfl, rfl⟩ := hrel
          by_cases hj8 : j < 8
          · have hj9 : decide (((j + 1 : Nat) : Int) < 9) = true := decide_eq_true (by omega)
            obtain ⟨g1, g2⟩ := HAT.out j hj8
            have hjX : j + 1 < X.size := by omega
            have hjXi : ((j + 1 : Nat) : Int) < (X.size : Int) := by omega
            have HG := Lib.hid g1
            rw [g1] at g2
            clear g1
            have hc256 := (X[j + 1]'hjX).toNat_lt
            generalize num8 (r.take j) = T at *
            go_wp2
            go_round
            case rel => exact ⟨j + 1, by omega, by go_num, by rw [HG.out]; congr 1; omega⟩
            case measure => simp [intOf]; omega
          · obtain rfl : j = 8 := by omega
            have hj9 : decide (((8 + 1 : Nat) : Int) < 9) = false := decide_eq_false (by omega)
            have hwu : wrap64 (IntKind.u64.wrap (((num8 (r.take 8) : Nat) : Int) - 9223372036854775808)) = ((num8 (r.take 8) : Nat) : Int) - 9223372036854775808 := by
              rw [IntKind.wrap_u64]; unfold wrap64; first | omega | (rw [IntKind.wrap_i64]; omega)
            have hb0 : -9223372036854775808 ≤ ((1, (num8 (r.take 8) : Int) - 9223372036854775808, ⟨#[]⟩) : Val).2.1 := by simp only; omega
            have hb1 : ((1, (num8 (r.take 8) : Int) - 9223372036854775808, ⟨#[]⟩) : Val).2.1 ≤ 9223372036854775807 := by simp only; omega
            generalize num8 (r.take 8) = U at *
            obtain ⟨N, hN⟩ : ∃ N : Int, N = (U : Int) - 9223372036854775808 := ⟨_, rfl⟩
            have hwu2 : wrap64 (IntKind.u64.wrap ((U : Int) - 9223372036854775808)) = N := by rw [hN]; exact hwu
            rw [← hN] at HCD hb0 hb1
            clear hwu
            obtain ⟨W, hW⟩ : ∃ W, W = wr.alloc (.cells #[.int .i64 1, .int .i64 N, .string ⟨#[]⟩] 54) := ⟨_, rfl⟩
            have hbW : Below w.heap.size w W := by rw [hW]; exact hbel.alloc hszr _
            have c0 : W.cell? ⟨wr.heap.size, 0, none⟩ = some (.int .i64 1) := by rw [hW]; go_simp
            have c1 : W.cell? ⟨wr.heap.size, 1, none⟩ = some (.int .i64 N) := by rw [hW]; go_simp
            have c2 : W.cell? ⟨wr.heap.size, 2, none⟩ = some (.string ⟨#[]⟩) := by rw [hW]; go_simp
            have hWz : wr.heap.size < W.heap.size := by rw [hW]; simp
            have HOW := Lib.hid (show W.ownsRow w.heap.size 54 3 (.slice a done.length c) done.length (vcells done) by rw [hW]; exact HO.out.alloc _)
            have HWE := Lib.hid hW.symm
            clear hW hN HO
            go_upto_region 23 with fail
            rw [HWE.out]
            clear HWE
            rcases ref_cut k r with ⟨v, rest, hv1, hvr, hcand, heq⟩ | ⟨hno, hcand⟩
            · have hvV : v = ((1, N, ⟨#[]⟩) : Val) := Option.some.inj (hcand.symm.trans HCD.out)
              rw [hvV] at hv1 hvr heq
              have hRu : R = (unk f rest).map fun q => (done ++ [((1, N, ⟨#[]⟩) : Val)]) ++ q := by
                have := hR.out
                simp only [unk] at this
                rw [hv1] at this
                simp only [hvr, if_true] at this
                rw [this]; cases unk f rest <;> simp
              obtain ⟨K, hK⟩ : ∃ K : ByteArray, K = ⟨(vkey ((1, N, ⟨#[]⟩) : Val)).toArray⟩ := ⟨_, rfl⟩
              have hkey := rkey_any ((1, N, ⟨#[]⟩) : Val) hvr hb0 hb1
              rw [← hK] at hkey
              have hlx : r.length + 1 = (vkey ((1, N, ⟨#[]⟩) : Val)).length + rest.length := by
                have := congrArg List.length heq
                rw [List.length_cons, List.length_append] at this; exact this
              have hKs : K.size = (vkey ((1, N, ⟨#[]⟩) : Val)).length := by rw [hK, ba_len]
              have hkp : 0 < (vkey ((1, N, ⟨#[]⟩) : Val)).length := by
                unfold vkey
                split
                · simp
                · split <;> simp
              have hKX : K.size ≤ X.size := by rw [HXS.out]; omega
              have hKX1 : decide ((X.size : Int) < (K.size : Int)) = false := decide_eq_false (by omega)
              have hKX2 : (K.size : Int) ≤ (X.size : Int) := by omega
              obtain ⟨E, hE⟩ : ∃ E : ByteArray, E = X.extract 0 K.size := ⟨_, rfl⟩
              have hEK : (E.toList == K.toList) = true := by
                have : E.toList = K.toList := by
                  rw [hE, hK, ByteArray.toList_eq, ByteArray.toList_eq, ext_list, HX.out]
                  simp only [List.drop_zero, Nat.sub_zero]
                  rw [heq, ba_len, List.take_left' rfl]
                rw [this]; simp
              have hEe := hE.symm
              obtain ⟨Z, hZ⟩ : ∃ Z : ByteArray, Z = X.extract K.size X.size := ⟨_, rfl⟩
              have hZd : Z = ⟨rest.toArray⟩ := by
                refine ba_eq _ _ ?_
                rw [hZ, ext_list, HX.out, hKs]
                simp only []
                rw [heq, List.drop_left' rfl, List.take_of_length_le (by rw [ba_len, List.length_append]; omega)]
              have hZe := hZ.symm
              have HZ := Lib.hid hZd
              have HRu := Lib.hid hRu
              have HKEY := Lib.hid hkey
              have HVR := Lib.hid hvr
              have hKs2 : K.size ≤ 1000000 := by simp only [List.length_cons] at hlen; omega
              have hrl : rest.length ≤ r.length := by omega
              clear hv1 hvr hcand heq hvV hRu hkey hK hlx hKs hE hZ hZd hR HCD hkp
              go_wp2_with fail
              refine (rright_any ((1, N, ⟨#[]⟩) : Val) _).mono ?_
              rintro e w1 ⟨rfl, hb1'⟩
              rw [HVR.out]
              have hz1' := hb1'.size
              have hbw1 := hbW.trans (hb1'.mono (by have := hbW.size; omega))
              have hO1 := own_below HOW.out hb1'
              have a0 := (hb1'.cell (p := ⟨wr.heap.size, 0, none⟩) hWz).trans c0
              have a1 := (hb1'.cell (p := ⟨wr.heap.size, 1, none⟩) hWz).trans c1
              have a2 := (hb1'.cell (p := ⟨wr.heap.size, 2, none⟩) hWz).trans c2
              have HO1 := Lib.hid hO1
              have hWz1 : wr.heap.size < w1.heap.size := by omega
              clear hO1 c0 c1 c2 HOW
              go_wp2_with fail
              refine (HKEY.out _).mono ?_
              rintro e w2 ⟨rfl, hb2'⟩
              have hbw2 := hbw1.trans (hb2'.mono (by have := hbw1.size; omega))
              have hO2 := own_below HO1.out hb2'
              have d0 := (hb2'.cell (p := ⟨wr.heap.size, 0, none⟩) hWz1).trans a0
              have d1 := (hb2'.cell (p := ⟨wr.heap.size, 1, none⟩) hWz1).trans a1
              have d2 := (hb2'.cell (p := ⟨wr.heap.size, 2, none⟩) hWz1).trans a2
              have hz2' := hb2'.size
              have HO2 := Lib.hid hO2
              clear hO2 a0 a1 a2 HO1
              go_wp2_with (at_builtin; refine wpList_append_lies _ rfl (.tmp 113) (.tmp 115) 22 rfl w.heap.size 54 i0 (.agg #[.int .i64 0, .int .i64 0, .string ⟨#[]⟩]) 3 32 Tryd.underlying22 hi iz0 iz1 iz2 rfl (by decide) _ done.length (vcells done) rfl (HO2.out.alloc _) ⟨w2.heap.size, 0, none⟩ 1 1 [.int .i64 (1), .int .i64 (N), .string (⟨#[]⟩)] rfl rfl (cell_three_new _ _ _ _ _) ?c1 (by decide) ?c2 ?c3 ?c4 (w2.heap.size + 1) ?c5 ?_)
              case c1 => simp [Value.oneCell']
              case c2 => unfold maxLen; simp at hlen; omega
              case c3 => simp at hlen; omega
              case c4 => simp; omega
              case c5 => simp
              intro g cap w3 hown3 hgrow hat hgl
              have hb3' := (hbw2.alloc (by omega) _).grown hgrow (by simp; omega) (fun k hk => (HO2.out.lt k hk).1)
              have hO3 : w3.ownsRow w.heap.size 54 3 (.slice (some ⟨g, 0, none⟩) (done.length + 1) cap) (done ++ [((1, N, ⟨#[]⟩) : Val)]).length (vcells (done ++ [((1, N, ⟨#[]⟩) : Val)])) := by rw [vcells_snoc, List.length_append]; exact hown3
              have HO3 := Lib.hid hO3
              clear hown3 hgrow hat hO3
              go_wp2
              rw [HZ.out]
              refine ⟨⟨f, rest, done ++ [((1, N, ⟨#[]⟩) : Val)], some ⟨g, 0, none⟩, cap, rfl, by rw [List.length_append]; rfl, by simp at hf; omega, by simp at hlen ⊢; omega, HRu, by simpa using HO3.out, hb3'⟩, ?_⟩
              show (⟨rest.toArray⟩ : ByteArray).size < X.size
              rw [ba_len, HXS.out]; omega
            · have hRn : R = none := by
                have := hR.out
                simp only [unk] at this
                cases hv : vcut (k :: r) with
                | none => rw [hv] at this; exact this
                | some p =>
                  rw [hv] at this
                  simp only [hno p.1 p.2 (by rw [hv])] at this
                  exact this
              have HRn := Lib.hid hRn
              have hpre := hcand ((1, N, ⟨#[]⟩) : Val) HCD.out
              clear hRn hno hcand hR HCD
              cases hvr : vright ((1, N, ⟨#[]⟩) : Val) with
              | false =>
                have HVR := Lib.hid hvr
                clear hvr hpre
                go_wp2_with fail
                refine (rright_any ((1, N, ⟨#[]⟩) : Val) _).mono ?_
                rintro e w1 ⟨rfl, hb1'⟩
                rw [HVR.out]
                have hbw1 := hbW.trans (hb1'.mono (by have := hbW.size; omega))
                go_wp2
                go_ret2
                rw [HRn.out]
                exact ⟨rfl, hbw1⟩
              | true =>
                obtain ⟨K, hK⟩ : ∃ K : ByteArray, K = ⟨(vkey ((1, N, ⟨#[]⟩) : Val)).toArray⟩ := ⟨_, rfl⟩
                have hkey := rkey_any ((1, N, ⟨#[]⟩) : Val) hvr hb0 hb1
                rw [← hK] at hkey
                have hne : K.size ≤ X.size → ((X.extract 0 K.size).toList == K.toList) = false := by
                  intro hle
                  refine beq_false_of_ne (fun e => ?_)
                  rw [ByteArray.toList_eq, ByteArray.toList_eq, ext_list, HX.out, hK, ba_len] at e
                  simp only [List.drop_zero, Nat.sub_zero] at e
                  refine hpre hvr ((k :: r).drop (vkey ((1, N, ⟨#[]⟩) : Val)).length) ?_
                  rw [← e, List.length_take]
                  have hl2 : (vkey ((1, N, ⟨#[]⟩) : Val)).length ≤ (k :: r).length := by rw [hK, ba_len, HXS.out] at hle; rw [List.length_cons]; exact hle
                  rw [Nat.min_eq_left hl2, List.take_append_drop]
                have HVR := Lib.hid hvr
                have HKEY := Lib.hid hkey
                have HNE := Lib.hid hne
                clear hvr hpre hK hkey hne
                go_wp2_with fail
                refine (rright_any ((1, N, ⟨#[]⟩) : Val) _).mono ?_
                rintro e w1 ⟨rfl, hb1'⟩
                rw [HVR.out]
                have hz1' := hb1'.size
                have hbw1 := hbW.trans (hb1'.mono (by have := hbW.size; omega))
                have a0 := (hb1'.cell (p := ⟨wr.heap.size, 0, none⟩) hWz).trans c0
                have a1 := (hb1'.cell (p := ⟨wr.heap.size, 1, none⟩) hWz).trans c1
                have a2 := (hb1'.cell (p := ⟨wr.heap.size, 2, none⟩) hWz).trans c2
                clear c0 c1 c2
                go_wp2_with fail
                refine (HKEY.out _).mono ?_
                rintro e w2 ⟨rfl, hb2'⟩
                have hbw2 := hbw1.trans (hb2'.mono (by have := hbw1.size; omega))
                by_cases hle : K.size ≤ X.size
                · have hle1 : decide ((X.size : Int) < (K.size : Int)) = false := decide_eq_false (by omega)
                  have hle2 : (K.size : Int) ≤ (X.size : Int) := by omega
                  have hne := HNE.out hle
                  clear a0 a1 a2
                  go_wp2
                  go_ret2
                  rw [HRn.out]
                  exact ⟨rfl, hbw2⟩
                · have hle1 : decide ((X.size : Int) < (K.size : Int)) = true := decide_eq_true (by omega)
                  clear a0 a1 a2
                  go_wp2
                  go_ret2
                  rw [HRn.out]
                  exact ⟨rfl, hbw2⟩
      · by_cases hk2 : k = 2
        · have e1 : ((X[0].toNat : Int) == 1) = false := by rw [HXI.out, hk2]; rfl
          have e2 : ((X[0].toNat : Int) == 2) = true := by rw [HXI.out, hk2]; rfl
          have e5 : (X[0].toNat : Int) = 2 := by have := HXI.out; rw [hk2] at this; simpa using this
          have hcd : cand k r = some (2, 0, ⟨(rscan r).toArray⟩) := by
            unfold cand
            rw [if_neg hk1, if_pos hk2]
          have HCD := Lib.hid hcd
          obtain ⟨W0, hW0⟩ : ∃ W0, W0 = wr.alloc (.cells #[.int .i64 2, .int .i64 0, .string ⟨#[]⟩] 54) := ⟨_, rfl⟩
          have hbW0 : Below w.heap.size w W0 := by rw [hW0]; exact hbel.alloc hszr _
          have hblk0 : W0.heap[wr.heap.size]? = some (.cells #[.int .i64 2, .int .i64 0, .string ⟨#[]⟩] 54 (0, 0)) := by rw [hW0]; exact Array.getElem?_push_size
          have HOW0 := Lib.hid (show W0.ownsRow w.heap.size 54 3 (.slice a done.length c) done.length (vcells done) by rw [hW0]; exact HO.out.alloc _)
          have hW0z : wr.heap.size < W0.heap.size := by rw [hW0]; simp
          have HB0 := Lib.hid hblk0
          have HWE0 := Lib.hid hW0.symm
          have HLT := Lib.hid (fun k hk => (HO.out.lt k hk).2)
          have hget : ∀ j (h : j + 1 < X.size) (hj : j < r.length), (X[j + 1]'h) = r[j] := by
            intro j h hj
            have : X.data.toList[j + 1]'(by rw [← Lib.size_eq]; exact h) = r[j] := by
              simp only [HX.out]; rfl
            exact this
          have HGET := Lib.hid hget
          have hrl2 : r.length ≤ 100000 := by simp only [List.length_cons] at hlen; omega
          clear hcd hk1 hk2 hW0 hblk0 hR0 hlen0 HXI hget HO
          go_upto_region 14 with fail
          rw [HWE0.out]
          clear HWE0 hbel
          generalize wr.heap.size = BB at *
          clear wr
          go_wp2_with fail
          go_loopw [8, 9] (fun b i wq => ∃ (j : Nat) (L : List UInt8) (a2 : Option Addr) (c2 : Nat), j ≤ r.length ∧ i = .int .i64 ((j + 1 : Nat) : Int) ∧ b = .slice a2 L.length c2 ∧ Hid (rscan r = L ++ rscan (r.drop j)) ∧ L.length ≤ j ∧ wq.ownsRow W0.heap.size 5 1 (.slice a2 L.length c2) L.length (b8s L) ∧ Below W0.heap.size W0 wq) (fun _ i _ => r.length + 1 - (intOf i).toNat)
          case atStart => exact ⟨0, [], none, 0, Nat.zero_le _, rfl, rfl, Lib.hid rfl, Nat.le_refl _, World.ownsRow_nil _ _ _ _, Below.refl _ _⟩
          case round =>
            obtain ⟨j, L, a2, c2, hj, rfl, rfl, hL, hLj, hown2, hbq⟩ := hrel
            have hzq := hbq.size
            have HO2 := Lib.hid hown2
            clear hown2
            have hstep : (∃ (C D : UInt8) (t : List UInt8), r.drop j = C :: D :: t ∧ r.drop (j + 1) = D :: t ∧ r.drop (j + 1 + 1) = t ∧ j + 1 < r.length ∧ (∀ h, ((X[j + 1]'h).toNat = C.toNat)) ∧ (∀ h, ((X[j + 1 + 1]'h).toNat = D.toNat))) ∨ (¬ j + 1 < r.length ∧ rscan (r.drop j) = []) := by
              by_cases hj1 : j + 1 < r.length
              · left
                refine ⟨r[j], r[j + 1], r.drop (j + 1 + 1), ?_, List.drop_eq_getElem_cons hj1, rfl, hj1, fun h => by rw [HGET.out j h (by omega)], fun h => by rw [HGET.out (j + 1) h hj1]⟩
                rw [List.drop_eq_getElem_cons (by omega), List.drop_eq_getElem_cons hj1]
              · right
                refine ⟨hj1, ?_⟩
                by_cases hj2 : j < r.length
                · rw [List.drop_eq_getElem_cons hj2, List.drop_eq_nil_of_le (by omega)]; rfl
                · rw [List.drop_eq_nil_of_le (by omega)]; rfl
            rcases hstep with ⟨C, D, t, hdr, hdr1, hdr2, hj1, va, vb⟩ | ⟨hj1, hend⟩
            · have q1 : decide (((j + 1 : Nat) : Int) + 1 < (X.size : Int)) = true := decide_eq_true (by rw [HXS.out]; omega)
              have hXa : j + 1 < X.size := by rw [HXS.out]; omega
              have hXb : j + 1 + 1 < X.size := by rw [HXS.out]; omega
              have hXai : ((j + 1 : Nat) : Int) < (X.size : Int) := by omega
              have hXbi : ((j + 1 : Nat) : Int) + 1 < (X.size : Int) := by omega
              have va1 := va hXa
              have vb1 := vb hXb
              have va2 : ((X[j + 1]'hXa).toNat : Int) = (C.toNat : Int) := by rw [va1]
              have vb2 : ((X[j + 1 + 1]'hXb).toNat : Int) = (D.toNat : Int) := by rw [vb1]
              have HDR := Lib.hid hdr
              have HDR1 := Lib.hid hdr1
              have HDR2 := Lib.hid hdr2
              clear va vb hdr hdr1 hdr2
              have hC256 := C.toNat_lt
              have hexit : C = 0 ∧ D = 1 ∨ ¬ (C = 0 ∧ D = 1) := Classical.em _
              rcases hexit with ⟨hC0, hD1⟩ | hno
              · have p1 : ((C.toNat : Int) == 0) = true := by rw [hC0]; rfl
                have p2 : ((D.toNat : Int) == 1) = true := by rw [hD1]; rfl
                have hend : rscan r = L := by rw [hL.out, HDR.out, rscan_cons, if_pos hC0, if_pos hD1, List.append_nil]
                clear hC0 hD1
                obtain ⟨SV, hSV⟩ : ∃ SV : ByteArray, SV = ⟨L.toArray⟩ := ⟨_, rfl⟩
                have hcv := conv_b8s (l := L) HO2.out
                rw [← hSV] at hcv
                have hcd := HCD.out
                rw [hend, ← hSV] at hcd
                have hblk := (hbq.block BB (by omega)).trans HB0.out
                obtain ⟨⟨cc0, cc1, cc2⟩, ff0, ff1, ff2⟩ := val_has hblk
                have hB0 : BB < W0.heap.size := by omega
                obtain ⟨W, hW⟩ : ∃ W, W = wr.setCell ⟨BB, 2, none⟩ (.string SV) := ⟨_, rfl⟩
                have hbW : Below w.heap.size w W := by rw [hW]; exact (hbW0.trans (hbq.mono (by have := hbW0.size; omega))).setCell (p := ⟨BB, 2, none⟩) hszr _
                have c0 : W.cell? ⟨BB, 0, none⟩ = some (.int .i64 2) := by rw [hW, World.cell?_setCell_other _ _ _ _ (by intro e; injection e with _ e; cases e)]; exact cc0
                have c1 : W.cell? ⟨BB, 1, none⟩ = some (.int .i64 0) := by rw [hW, World.cell?_setCell_other _ _ _ _ (by intro e; injection e with _ e; cases e)]; exact cc1
                have c2 : W.cell? ⟨BB, 2, none⟩ = some (.string SV) := by rw [hW]; exact World.cell?_setCell_same _ _ _ cc2
                have hWz : BB < W.heap.size := by rw [hW]; simp; omega
                have HOW := Lib.hid (show W.ownsRow w.heap.size 54 3 (.slice a done.length c) done.length (vcells done) by
                  have h1 := own_below HOW0.out hbq
                  rw [hW]
                  refine h1.kept (row := some BB) ⟨rfl, rfl, rfl, by simp, fun k hk hne => Below.heap_setCell _ _ _ _ (fun e => hne (by rw [e]))⟩ ?_
                  cases ho : (Value.slice a done.length c).ownBlock with
                  | none => exact .inl rfl
                  | some k => exact .inr (fun e => by injection e with e; have := HLT.out k ho; omega))
                have HWE := Lib.hid hW.symm
                have HCD := Lib.hid hcd
                have hb0 : -9223372036854775808 ≤ ((2, 0, SV) : Val).2.1 := by simp only; omega
                have hb1 : ((2, 0, SV) : Val).2.1 ≤ 9223372036854775807 := by simp only; omega
                clear hend hSV hcd hblk hW HOW0 HB0 hL
                go_upto_region 23 with fail
                rw [HWE.out]
                clear HWE cc0 cc1 cc2 ff0 ff1 ff2 hcv
                rcases ref_cut k r with ⟨v, rest, hv1, hvr, hcand, heq⟩ | ⟨hno, hcand⟩
                · have hvV : v = ((2, 0, SV) : Val) := Option.some.inj (hcand.symm.trans HCD.out)
                  rw [hvV] at hv1 hvr heq
                  have hRu : R = (unk f rest).map fun q => (done ++ [((2, 0, SV) : Val)]) ++ q := by
                    have := hR.out
                    simp only [unk] at this
                    rw [hv1] at this
                    simp only [hvr, if_true] at this
                    rw [this]; cases unk f rest <;> simp
                  obtain ⟨K, hK⟩ : ∃ K : ByteArray, K = ⟨(vkey ((2, 0, SV) : Val)).toArray⟩ := ⟨_, rfl⟩
                  have hkey := rkey_any ((2, 0, SV) : Val) hvr hb0 hb1
                  rw [← hK] at hkey
                  have hlx : r.length + 1 = (vkey ((2, 0, SV) : Val)).length + rest.length := by
                    have := congrArg List.length heq
                    rw [List.length_cons, List.length_append] at this; exact this
                  have hKs : K.size = (vkey ((2, 0, SV) : Val)).length := by rw [hK, ba_len]
                  have hkp : 0 < (vkey ((2, 0, SV) : Val)).length := by
                    unfold vkey
                    split
                    · simp
                    · split <;> simp
                  have hKX : K.size ≤ X.size := by rw [HXS.out]; omega
                  have hKX1 : decide ((X.size : Int) < (K.size : Int)) = false := decide_eq_false (by omega)
                  have hKX2 : (K.size : Int) ≤ (X.size : Int) := by omega
                  obtain ⟨E, hE⟩ : ∃ E : ByteArray, E = X.extract 0 K.size := ⟨_, rfl⟩
                  have hEK : (E.toList == K.toList) = true := by
                    have : E.toList = K.toList := by
                      rw [hE, hK, ByteArray.toList_eq, ByteArray.toList_eq, ext_list, HX.out]
                      simp only [List.drop_zero, Nat.sub_zero]
                      rw [heq, ba_len, List.take_left' rfl]
                    rw [this]; simp
                  have hEe := hE.symm
                  obtain ⟨Z, hZ⟩ : ∃ Z : ByteArray, Z = X.extract K.size X.size := ⟨_, rfl⟩
                  have hZd : Z = ⟨rest.toArray⟩ := by
                    refine ba_eq _ _ ?_
                    rw [hZ, ext_list, HX.out, hKs]
                    simp only []
                    rw [heq, List.drop_left' rfl, List.take_of_length_le (by rw [ba_len, List.length_append]; omega)]
                  have hZe := hZ.symm
                  have HZ := Lib.hid hZd
                  have HRu := Lib.hid hRu
                  have HKEY := Lib.hid hkey
                  have HVR := Lib.hid hvr
                  have hKs2 : K.size ≤ 1000000 := by simp only [List.length_cons] at hlen; omega
                  have hrl : rest.length ≤ r.length := by omega
                  clear hv1 hvr hcand heq hvV hRu hkey hK hlx hKs hE hZ hZd hR HCD hkp
                  go_wp2_with fail
                  refine (rright_any ((2, 0, SV) : Val) _).mono ?_
                  rintro e w1 ⟨rfl, hb1'⟩
                  rw [HVR.out]
                  have hz1' := hb1'.size
                  have hbw1 := hbW.trans (hb1'.mono (by have := hbW.size; omega))
                  have hO1 := own_below HOW.out hb1'
                  have a0 := (hb1'.cell (p := ⟨BB, 0, none⟩) hWz).trans c0
                  have a1 := (hb1'.cell (p := ⟨BB, 1, none⟩) hWz).trans c1
                  have a2 := (hb1'.cell (p := ⟨BB, 2, none⟩) hWz).trans c2
                  have HO1 := Lib.hid hO1
                  have hWz1 : BB < w1.heap.size := by omega
                  clear hO1 c0 c1 c2 HOW
                  go_wp2_with fail
                  refine (HKEY.out _).mono ?_
                  rintro e w2 ⟨rfl, hb2'⟩
                  have hbw2 := hbw1.trans (hb2'.mono (by have := hbw1.size; omega))
                  have hO2 := own_below HO1.out hb2'
                  have d0 := (hb2'.cell (p := ⟨BB, 0, none⟩) hWz1).trans a0
                  have d1 := (hb2'.cell (p := ⟨BB, 1, none⟩) hWz1).trans a1
                  have d2 := (hb2'.cell (p := ⟨BB, 2, none⟩) hWz1).trans a2
                  have hz2' := hb2'.size
                  have HO2 := Lib.hid hO2
                  clear hO2 a0 a1 a2 HO1
                  go_wp2_with (at_builtin; refine wpList_append_lies _ rfl (.tmp 113) (.tmp 115) 22 rfl w.heap.size 54 i0 (.agg #[.int .i64 0, .int .i64 0, .string ⟨#[]⟩]) 3 32 Tryd.underlying22 hi iz0 iz1 iz2 rfl (by decide) _ done.length (vcells done) rfl (HO2.out.alloc _) ⟨w2.heap.size, 0, none⟩ 1 1 [.int .i64 (2), .int .i64 (0), .string (SV)] rfl rfl (cell_three_new _ _ _ _ _) ?c1 (by decide) ?c2 ?c3 ?c4 (w2.heap.size + 1) ?c5 ?_)
                  case c1 => simp [Value.oneCell']
                  case c2 => unfold maxLen; simp at hlen; omega
                  case c3 => simp at hlen; omega
                  case c4 => simp; omega
                  case c5 => simp
                  intro g cap w3 hown3 hgrow hat hgl
                  have hb3' := (hbw2.alloc (by omega) _).grown hgrow (by simp; omega) (fun k hk => (HO2.out.lt k hk).1)
                  have hO3 : w3.ownsRow w.heap.size 54 3 (.slice (some ⟨g, 0, none⟩) (done.length + 1) cap) (done ++ [((2, 0, SV) : Val)]).length (vcells (done ++ [((2, 0, SV) : Val)])) := by rw [vcells_snoc, List.length_append]; exact hown3
                  have HO3 := Lib.hid hO3
                  clear hown3 hgrow hat hO3
                  go_wp2
                  rw [HZ.out]
                  refine ⟨⟨f, rest, done ++ [((2, 0, SV) : Val)], some ⟨g, 0, none⟩, cap, rfl, by rw [List.length_append]; rfl, by simp at hf; omega, by simp at hlen ⊢; omega, HRu, by simpa using HO3.out, hb3'⟩, ?_⟩
                  show (⟨rest.toArray⟩ : ByteArray).size < X.size
                  rw [ba_len, HXS.out]; omega
                · have hRn : R = none := by
                    have := hR.out
                    simp only [unk] at this
                    cases hv : vcut (k :: r) with
                    | none => rw [hv] at this; exact this
                    | some p =>
                      rw [hv] at this
                      simp only [hno p.1 p.2 (by rw [hv])] at this
                      exact this
                  have HRn := Lib.hid hRn
                  have hpre := hcand ((2, 0, SV) : Val) HCD.out
                  clear hRn hno hcand hR HCD
                  cases hvr : vright ((2, 0, SV) : Val) with
                  | false =>
                    have HVR := Lib.hid hvr
                    clear hvr hpre
                    go_wp2_with fail
                    refine (rright_any ((2, 0, SV) : Val) _).mono ?_
                    rintro e w1 ⟨rfl, hb1'⟩
                    rw [HVR.out]
                    have hbw1 := hbW.trans (hb1'.mono (by have := hbW.size; omega))
                    go_wp2
                    go_ret2
                    rw [HRn.out]
                    exact ⟨rfl, hbw1⟩
                  | true =>
                    obtain ⟨K, hK⟩ : ∃ K : ByteArray, K = ⟨(vkey ((2, 0, SV) : Val)).toArray⟩ := ⟨_, rfl⟩
                    have hkey := rkey_any ((2, 0, SV) : Val) hvr hb0 hb1
                    rw [← hK] at hkey
                    have hne : K.size ≤ X.size → ((X.extract 0 K.size).toList == K.toList) = false := by
                      intro hle
                      refine beq_false_of_ne (fun e => ?_)
                      rw [ByteArray.toList_eq, ByteArray.toList_eq, ext_list, HX.out, hK, ba_len] at e
                      simp only [List.drop_zero, Nat.sub_zero] at e
                      refine hpre hvr ((k :: r).drop (vkey ((2, 0, SV) : Val)).length) ?_
                      rw [← e, List.length_take]
                      have hl2 : (vkey ((2, 0, SV) : Val)).length ≤ (k :: r).length := by rw [hK, ba_len, HXS.out] at hle; rw [List.length_cons]; exact hle
                      rw [Nat.min_eq_left hl2, List.take_append_drop]
                    have HVR := Lib.hid hvr
                    have HKEY := Lib.hid hkey
                    have HNE := Lib.hid hne
                    clear hvr hpre hK hkey hne
                    go_wp2_with fail
                    refine (rright_any ((2, 0, SV) : Val) _).mono ?_
                    rintro e w1 ⟨rfl, hb1'⟩
                    rw [HVR.out]
                    have hz1' := hb1'.size
                    have hbw1 := hbW.trans (hb1'.mono (by have := hbW.size; omega))
                    have a0 := (hb1'.cell (p := ⟨BB, 0, none⟩) hWz).trans c0
                    have a1 := (hb1'.cell (p := ⟨BB, 1, none⟩) hWz).trans c1
                    have a2 := (hb1'.cell (p := ⟨BB, 2, none⟩) hWz).trans c2
                    clear c0 c1 c2
                    go_wp2_with fail
                    refine (HKEY.out _).mono ?_
                    rintro e w2 ⟨rfl, hb2'⟩
                    have hbw2 := hbw1.trans (hb2'.mono (by have := hbw1.size; omega))
                    by_cases hle : K.size ≤ X.size
                    · have hle1 : decide ((X.size : Int) < (K.size : Int)) = false := decide_eq_false (by omega)
                      have hle2 : (K.size : Int) ≤ (X.size : Int) := by omega
                      have hne := HNE.out hle
                      clear a0 a1 a2
                      go_wp2
                      go_ret2
                      rw [HRn.out]
                      exact ⟨rfl, hbw2⟩
                    · have hle1 : decide ((X.size : Int) < (K.size : Int)) = true := decide_eq_true (by omega)
                      clear a0 a1 a2
                      go_wp2
                      go_ret2
                      rw [HRn.out]
                      exact ⟨rfl, hbw2⟩
              · by_cases hC0 : C = 0
                · have p1 : ((C.toNat : Int) == 0) = true := by rw [hC0]; rfl
                  have hD1 : ¬ D = 1 := fun e => hno ⟨hC0, e⟩
                  have p2 : ((D.toNat : Int) == 1) = false := beq_false_of_ne (fun e => hD1 (UInt8.toNat_inj.1 (by have : (1 : UInt8).toNat = 1 := rfl; omega)))
                  have hL2 : rscan r = L ++ [C] ++ rscan (r.drop (j + 1 + 1)) := by rw [hL.out, HDR.out, HDR2.out, rscan_cons, if_pos hC0, if_neg hD1, hC0]; simp
                  have HL2 := Lib.hid hL2
                  clear hC0 hD1 hL2 hno
                  go_wp2_with (at_builtin; refine wpList_append_lies _ rfl (.tmp 65) (.tmp 69) 45 rfl W0.heap.size 5 j0 (.int .u8 0) 1 1 Tryd.underlying45 hjj jz0 jz1 jz2 rfl (by decide) _ L.length (b8s L) rfl (HO2.out.alloc _) ⟨wr.heap.size, 0, none⟩ 1 1 [.int .u8 (C.toNat : Int)] rfl rfl (one_cell_new _ _ _) ?c1 (by decide) ?c2 ?c3 ?c4 (wr.heap.size + 1) ?c5 ?_)
                  case c1 => simp [Value.oneCell']
                  case c2 => unfold maxLen; omega
                  case c3 => omega
                  case c4 => simp; omega
                  case c5 => simp
                  intro g cap w1 hn1 hgr hat hgl
                  have hb1 : Below W0.heap.size W0 w1 := (hbq.alloc hzq _).grown hgr (by simp; omega) (fun j hj => (HO2.out.lt j hj).1)
                  have hO3 : w1.ownsRow W0.heap.size 5 1 (.slice (some ⟨g, 0, none⟩) (L.length + 1) cap) (L.length + 1) (b8s (L ++ [C])) := by rw [b8s_app]; exact hn1
                  have HO3 := Lib.hid hO3
                  clear hgr hat hn1 hO3
                  go_wp2
                  go_roundw
                  case rel => exact ⟨j + 1 + 1, L ++ [C], some ⟨g, 0, none⟩, cap, by omega, by go_num, by simp, HL2, by simp; omega, by simpa using HO3.out, hb1⟩
                  case measure => simp [intOf]; omega
                · have p1 : ((C.toNat : Int) == 0) = false := beq_false_of_ne (fun e => hC0 (UInt8.toNat_inj.1 (by have : (0 : UInt8).toNat = 0 := rfl; omega)))
                  have hL2 : rscan r = L ++ [C] ++ rscan (r.drop (j + 1)) := by rw [hL.out, HDR.out, HDR1.out, rscan_cons, if_neg hC0]; simp
                  have HL2 := Lib.hid hL2
                  clear hC0 hL2 hno
                  go_wp2_with (at_builtin; refine wpList_append_lies _ rfl (.tmp 65) (.tmp 69) 45 rfl W0.heap.size 5 j0 (.int .u8 0) 1 1 Tryd.underlying45 hjj jz0 jz1 jz2 rfl (by decide) _ L.length (b8s L) rfl (HO2.out.alloc _) ⟨wr.heap.size, 0, none⟩ 1 1 [.int .u8 (C.toNat : Int)] rfl rfl (one_cell_new _ _ _) ?c1 (by decide) ?c2 ?c3 ?c4 (wr.heap.size + 1) ?c5 ?_)
                  case c1 => simp [Value.oneCell']
                  case c2 => unfold maxLen; omega
                  case c3 => omega
                  case c4 => simp; omega
                  case c5 => simp
                  intro g cap w1 hn1 hgr hat hgl
                  have hb1 : Below W0.heap.size W0 w1 := (hbq.alloc hzq _).grown hgr (by simp; omega) (fun j hj => (HO2.out.lt j hj).1)
                  have hO3 : w1.ownsRow W0.heap.size 5 1 (.slice (some ⟨g, 0, none⟩) (L.length + 1) cap) (L.length + 1) (b8s (L ++ [C])) := by rw [b8s_app]; exact hn1
                  have HO3 := Lib.hid hO3
                  clear hgr hat hn1 hO3
                  go_wp2
                  go_roundw
                  case rel => exact ⟨j + 1, L ++ [C], some ⟨g, 0, none⟩, cap, by omega, by go_num, by simp, HL2, by simp; omega, by simpa using HO3.out, hb1⟩
                  case measure => simp [intOf]; omega
            · have hend : rscan r = L := by rw [hL.out, hend, List.append_nil]
              have q1 : decide (((j + 1 : Nat) : Int) + 1 < (X.size : Int)) = false := decide_eq_false (by rw [HXS.out]; omega)
              have q1' : decide ((j : Int) + 1 + 1 < (X.size : Int)) = false := decide_eq_false (by rw [HXS.out]; omega)
              have q1n : ¬ (j : Int) + 1 + 1 < (X.size : Int) := by rw [HXS.out]; omega
              obtain ⟨SV, hSV⟩ : ∃ SV : ByteArray, SV = ⟨L.toArray⟩ := ⟨_, rfl⟩
              have hcv := conv_b8s (l := L) HO2.out
              rw [← hSV] at hcv
              have hcd := HCD.out
              rw [hend, ← hSV] at hcd
              have hblk := (hbq.block BB (by omega)).trans HB0.out
              obtain ⟨⟨cc0, cc1, cc2⟩, ff0, ff1, ff2⟩ := val_has hblk
              have hB0 : BB < W0.heap.size := by omega
              obtain ⟨W, hW⟩ : ∃ W, W = wr.setCell ⟨BB, 2, none⟩ (.string SV) := ⟨_, rfl⟩
              have hbW : Below w.heap.size w W := by rw [hW]; exact (hbW0.trans (hbq.mono (by have := hbW0.size; omega))).setCell (p := ⟨BB, 2, none⟩) hszr _
              have c0 : W.cell? ⟨BB, 0, none⟩ = some (.int .i64 2) := by rw [hW, World.cell?_setCell_other _ _ _ _ (by intro e; injection e with _ e; cases e)]; exact cc0
              have c1 : W.cell? ⟨BB, 1, none⟩ = some (.int .i64 0) := by rw [hW, World.cell?_setCell_other _ _ _ _ (by intro e; injection e with _ e; cases e)]; exact cc1
              have c2 : W.cell? ⟨BB, 2, none⟩ = some (.string SV) := by rw [hW]; exact World.cell?_setCell_same _ _ _ cc2
              have hWz : BB < W.heap.size := by rw [hW]; simp; omega
              have HOW := Lib.hid (show W.ownsRow w.heap.size 54 3 (.slice a done.length c) done.length (vcells done) by
                have h1 := own_below HOW0.out hbq
                rw [hW]
                refine h1.kept (row := some BB) ⟨rfl, rfl, rfl, by simp, fun k hk hne => Below.heap_setCell _ _ _ _ (fun e => hne (by rw [e]))⟩ ?_
                cases ho : (Value.slice a done.length c).ownBlock with
                | none => exact .inl rfl
                | some k => exact .inr (fun e => by injection e with e; have := HLT.out k ho; omega))
              have HWE := Lib.hid hW.symm
              have HCD := Lib.hid hcd
              have hb0 : -9223372036854775808 ≤ ((2, 0, SV) : Val).2.1 := by simp only; omega
              have hb1 : ((2, 0, SV) : Val).2.1 ≤ 9223372036854775807 := by simp only; omega
              clear hend hSV hcd hblk hW HOW0 HB0 hL
              go_upto_region 23 with fail
              rw [HWE.out]
              clear HWE cc0 cc1 cc2 ff0 ff1 ff2 hcv
              rcases ref_cut k r with ⟨v, rest, hv1, hvr, hcand, heq⟩ | ⟨hno, hcand⟩
              · have hvV : v = ((2, 0, SV) : Val) := Option.some.inj (hcand.symm.trans HCD.out)
                rw [hvV] at hv1 hvr heq
                have hRu : R = (unk f rest).map fun q => (done ++ [((2, 0, SV) : Val)]) ++ q := by
                  have := hR.out
                  simp only [unk] at this
                  rw [hv1] at this
                  simp only [hvr, if_true] at this
                  rw [this]; cases unk f rest <;> simp
                obtain ⟨K, hK⟩ : ∃ K : ByteArray, K = ⟨(vkey ((2, 0, SV) : Val)).toArray⟩ := ⟨_, rfl⟩
                have hkey := rkey_any ((2, 0, SV) : Val) hvr hb0 hb1
                rw [← hK] at hkey
                have hlx : r.length + 1 = (vkey ((2, 0, SV) : Val)).length + rest.length := by
                  have := congrArg List.length heq
                  rw [List.length_cons, List.length_append] at this; exact this
                have hKs : K.size = (vkey ((2, 0, SV) : Val)).length := by rw [hK, ba_len]
                have hkp : 0 < (vkey ((2, 0, SV) : Val)).length := by
                  unfold vkey
                  split
                  · simp
                  · split <;> simp
                have hKX : K.size ≤ X.size := by rw [HXS.out]; omega
                have hKX1 : decide ((X.size : Int) < (K.size : Int)) = false := decide_eq_false (by omega)
                have hKX2 : (K.size : Int) ≤ (X.size : Int) := by omega
                obtain ⟨E, hE⟩ : ∃ E : ByteArray, E = X.extract 0 K.size := ⟨_, rfl⟩
                have hEK : (E.toList == K.toList) = true := by
                  have : E.toList = K.toList := by
                    rw [hE, hK, ByteArray.toList_eq, ByteArray.toList_eq, ext_list, HX.out]
                    simp only [List.drop_zero, Nat.sub_zero]
                    rw [heq, ba_len, List.take_left' rfl]
                  rw [this]; simp
                have hEe := hE.symm
                obtain ⟨Z, hZ⟩ : ∃ Z : ByteArray, Z = X.extract K.size X.size := ⟨_, rfl⟩
                have hZd : Z = ⟨rest.toArray⟩ := by
                  refine ba_eq _ _ ?_
                  rw [hZ, ext_list, HX.out, hKs]
                  simp only []
                  rw [heq, List.drop_left' rfl, List.take_of_length_le (by rw [ba_len, List.length_append]; omega)]
                have hZe := hZ.symm
                have HZ := Lib.hid hZd
                have HRu := Lib.hid hRu
                have HKEY := Lib.hid hkey
                have HVR := Lib.hid hvr
                have hKs2 : K.size ≤ 1000000 := by simp only [List.length_cons] at hlen; omega
                have hrl : rest.length ≤ r.length := by omega
                clear hv1 hvr hcand heq hvV hRu hkey hK hlx hKs hE hZ hZd hR HCD hkp
                go_wp2_with fail
                refine (rright_any ((2, 0, SV) : Val) _).mono ?_
                rintro e w1 ⟨rfl, hb1'⟩
                rw [HVR.out]
                have hz1' := hb1'.size
                have hbw1 := hbW.trans (hb1'.mono (by have := hbW.size; omega))
                have hO1 := own_below HOW.out hb1'
                have a0 := (hb1'.cell (p := ⟨BB, 0, none⟩) hWz).trans c0
                have a1 := (hb1'.cell (p := ⟨BB, 1, none⟩) hWz).trans c1
                have a2 := (hb1'.cell (p := ⟨BB, 2, none⟩) hWz).trans c2
                have HO1 := Lib.hid hO1
                have hWz1 : BB < w1.heap.size := by omega
                clear hO1 c0 c1 c2 HOW
                go_wp2_with fail
                refine (HKEY.out _).mono ?_
                rintro e w2 ⟨rfl, hb2'⟩
                have hbw2 := hbw1.trans (hb2'.mono (by have := hbw1.size; omega))
                have hO2 := own_below HO1.out hb2'
                have d0 := (hb2'.cell (p := ⟨BB, 0, none⟩) hWz1).trans a0
                have d1 := (hb2'.cell (p := ⟨BB, 1, none⟩) hWz1).trans a1
                have d2 := (hb2'.cell (p := ⟨BB, 2, none⟩) hWz1).trans a2
                have hz2' := hb2'.size
                have HO2 := Lib.hid hO2
                clear hO2 a0 a1 a2 HO1
                go_wp2_with (at_builtin; refine wpList_append_lies _ rfl (.tmp 113) (.tmp 115) 22 rfl w.heap.size 54 i0 (.agg #[.int .i64 0, .int .i64 0, .string ⟨#[]⟩]) 3 32 Tryd.underlying22 hi iz0 iz1 iz2 rfl (by decide) _ done.length (vcells done) rfl (HO2.out.alloc _) ⟨w2.heap.size, 0, none⟩ 1 1 [.int .i64 (2), .int .i64 (0), .string (SV)] rfl rfl (cell_three_new _ _ _ _ _) ?c1 (by decide) ?c2 ?c3 ?c4 (w2.heap.size + 1) ?c5 ?_)
                case c1 => simp [Value.oneCell']
                case c2 => unfold maxLen; simp at hlen; omega
                case c3 => simp at hlen; omega
                case c4 => simp; omega
                case c5 => simp
                intro g cap w3 hown3 hgrow hat hgl
                have hb3' := (hbw2.alloc (by omega) _).grown hgrow (by simp; omega) (fun k hk => (HO2.out.lt k hk).1)
                have hO3 : w3.ownsRow w.heap.size 54 3 (.slice (some ⟨g, 0, none⟩) (done.length + 1) cap) (done ++ [((2, 0, SV) : Val)]).length (vcells (done ++ [((2, 0, SV) : Val)])) := by rw [vcells_snoc, List.length_append]; exact hown3
                have HO3 := Lib.hid hO3
                clear hown3 hgrow hat hO3
                go_wp2
                rw [HZ.out]
                refine ⟨⟨f, rest, done ++ [((2, 0, SV) : Val)], some ⟨g, 0, none⟩, cap, rfl, by rw [List.length_append]; rfl, by simp at hf; omega, by simp at hlen ⊢; omega, HRu, by simpa using HO3.out, hb3'⟩, ?_⟩
                show (⟨rest.toArray⟩ : ByteArray).size < X.size
                rw [ba_len, HXS.out]; omega
              · have hRn : R = none := by
                  have := hR.out
                  simp only [unk] at this
                  cases hv : vcut (k :: r) with
                  | none => rw [hv] at this; exact this
                  | some p =>
                    rw [hv] at this
                    simp only [hno p.1 p.2 (by rw [hv])] at this
                    exact this
                have HRn := Lib.hid hRn
                have hpre := hcand ((2, 0, SV) : Val) HCD.out
                clear hRn hno hcand hR HCD
                cases hvr : vright ((2, 0, SV) : Val) with
                | false =>
                  have HVR := Lib.hid hvr
                  clear hvr hpre
                  go_wp2_with fail
                  refine (rright_any ((2, 0, SV) : Val) _).mono ?_
                  rintro e w1 ⟨rfl, hb1'⟩
                  rw [HVR.out]
                  have hbw1 := hbW.trans (hb1'.mono (by have := hbW.size; omega))
                  go_wp2
                  go_ret2
                  rw [HRn.out]
                  exact ⟨rfl, hbw1⟩
                | true =>
                  obtain ⟨K, hK⟩ : ∃ K : ByteArray, K = ⟨(vkey ((2, 0, SV) : Val)).toArray⟩ := ⟨_, rfl⟩
                  have hkey := rkey_any ((2, 0, SV) : Val) hvr hb0 hb1
                  rw [← hK] at hkey
                  have hne : K.size ≤ X.size → ((X.extract 0 K.size).toList == K.toList) = false := by
                    intro hle
                    refine beq_false_of_ne (fun e => ?_)
                    rw [ByteArray.toList_eq, ByteArray.toList_eq, ext_list, HX.out, hK, ba_len] at e
                    simp only [List.drop_zero, Nat.sub_zero] at e
                    refine hpre hvr ((k :: r).drop (vkey ((2, 0, SV) : Val)).length) ?_
                    rw [← e, List.length_take]
                    have hl2 : (vkey ((2, 0, SV) : Val)).length ≤ (k :: r).length := by rw [hK, ba_len, HXS.out] at hle; rw [List.length_cons]; exact hle
                    rw [Nat.min_eq_left hl2, List.take_append_drop]
                  have HVR := Lib.hid hvr
                  have HKEY := Lib.hid hkey
                  have HNE := Lib.hid hne
                  clear hvr hpre hK hkey hne
                  go_wp2_with fail
                  refine (rright_any ((2, 0, SV) : Val) _).mono ?_
                  rintro e w1 ⟨rfl, hb1'⟩
                  rw [HVR.out]
                  have hz1' := hb1'.size
                  have hbw1 := hbW.trans (hb1'.mono (by have := hbW.size; omega))
                  have a0 := (hb1'.cell (p := ⟨BB, 0, none⟩) hWz).trans c0
                  have a1 := (hb1'.cell (p := ⟨BB, 1, none⟩) hWz).trans c1
                  have a2 := (hb1'.cell (p := ⟨BB, 2, none⟩) hWz).trans c2
                  clear c0 c1 c2
                  go_wp2_with fail
                  refine (HKEY.out _).mono ?_
                  rintro e w2 ⟨rfl, hb2'⟩
                  have hbw2 := hbw1.trans (hb2'.mono (by have := hbw1.size; omega))
                  by_cases hle : K.size ≤ X.size
                  · have hle1 : decide ((X.size : Int) < (K.size : Int)) = false := decide_eq_false (by omega)
                    have hle2 : (K.size : Int) ≤ (X.size : Int) := by omega
                    have hne := HNE.out hle
                    clear a0 a1 a2
                    go_wp2
                    go_ret2
                    rw [HRn.out]
                    exact ⟨rfl, hbw2⟩
                  · have hle1 : decide ((X.size : Int) < (K.size : Int)) = true := decide_eq_true (by omega)
                    clear a0 a1 a2
                    go_wp2
                    go_ret2
                    rw [HRn.out]
                    exact ⟨rfl, hbw2⟩
        · by_cases hk3 : k = 3 ∧ 1 ≤ r.length
          · obtain ⟨hk3, hr1⟩ := hk3
            have e1 : ((X[0].toNat : Int) == 1) = false := by rw [HXI.out, hk3]; rfl
            have e2 : ((X[0].toNat : Int) == 2) = false := by rw [HXI.out, hk3]; rfl
            have e3 : ((X[0].toNat : Int) == 3) = true := by rw [HXI.out, hk3]; rfl
            have e4 : decide ((2 : Int) ≤ (X.size : Int)) = true := decide_eq_true (by rw [HXS.out]; omega)
            have e5 : (X[0].toNat : Int) = 3 := by have := HXI.out; rw [hk3] at this; simpa using this
            have hX1 : 1 < X.size := by rw [HXS.out]; omega
            have hX1i : (1 : Int) < (X.size : Int) := by omega
            obtain ⟨d, t, hrd⟩ : ∃ d t, r = d :: t := by
              cases r with
              | nil => simp at hr1
              | cons d t => exact ⟨d, t, rfl⟩
            have hXd : wrap64 (X[1].toNat : Int) = (d.toNat : Int) := by
              have h1 : X[1] = d := by
                have : X.data.toList[1]'(by rw [← Lib.size_eq]; exact hX1) = d := by
                  simp only [HX.out, hrd]; rfl
                exact this
              rw [h1]
              have := d.toNat_lt
              exact IntWalk.wrap64_in _ ⟨by omega, by omega⟩
            have hcd : cand k r = some (3, (d.toNat : Int), ⟨#[]⟩) := by
              unfold cand
              rw [if_neg hk1, if_neg hk2, if_pos hk3, hrd]
            have hd256 := d.toNat_lt
            have hb0 : -9223372036854775808 ≤ ((3, (d.toNat : Int), ⟨#[]⟩) : Val).2.1 := by simp only; omega
            have hb1 : ((3, (d.toNat : Int), ⟨#[]⟩) : Val).2.1 ≤ 9223372036854775807 := by simp only; omega
            have HCD := Lib.hid hcd
            obtain ⟨W, hW⟩ : ∃ W, W = wr.alloc (.cells #[.int .i64 3, .int .i64 (d.toNat : Int), .string ⟨#[]⟩] 54) := ⟨_, rfl⟩
            have hbW : Below w.heap.size w W := by rw [hW]; exact hbel.alloc hszr _
            have c0 : W.cell? ⟨wr.heap.size, 0, none⟩ = some (.int .i64 3) := by rw [hW]; go_simp
            have c1 : W.cell? ⟨wr.heap.size, 1, none⟩ = some (.int .i64 (d.toNat : Int)) := by rw [hW]; go_simp
            have c2 : W.cell? ⟨wr.heap.size, 2, none⟩ = some (.string ⟨#[]⟩) := by rw [hW]; go_simp
            have hWz : wr.heap.size < W.heap.size := by rw [hW]; simp
            have HOW := Lib.hid (show W.ownsRow w.heap.size 54 3 (.slice a done.length c) done.length (vcells done) by rw [hW]; exact HO.out.alloc _)
            have HRD := Lib.hid hrd
            have hWe := hW.symm
            have HWE := Lib.hid hWe
            clear hcd hrd hk1 hk2 hk3 hW hWe HO hR0 hlen0 HXI
            go_upto_region 23 with fail
            rw [HWE.out]
            clear HWE
            rcases ref_cut k r with ⟨v, rest, hv1, hvr, hcand, heq⟩ | ⟨hno, hcand⟩
            · have hvV : v = ((3, (d.toNat : Int), ⟨#[]⟩) : Val) := Option.some.inj (hcand.symm.trans HCD.out)
              rw [hvV] at hv1 hvr heq
              have hRu : R = (unk f rest).map fun q => (done ++ [((3, (d.toNat : Int), ⟨#[]⟩) : Val)]) ++ q := by
                have := hR.out
                simp only [unk] at this
                rw [hv1] at this
                simp only [hvr, if_true] at this
                rw [this]; cases unk f rest <;> simp
              obtain ⟨K, hK⟩ : ∃ K : ByteArray, K = ⟨(vkey ((3, (d.toNat : Int), ⟨#[]⟩) : Val)).toArray⟩ := ⟨_, rfl⟩
              have hkey := rkey_any ((3, (d.toNat : Int), ⟨#[]⟩) : Val) hvr hb0 hb1
              rw [← hK] at hkey
              have hlx : r.length + 1 = (vkey ((3, (d.toNat : Int), ⟨#[]⟩) : Val)).length + rest.length := by
                have := congrArg List.length heq
                rw [List.length_cons, List.length_append] at this; exact this
              have hKs : K.size = (vkey ((3, (d.toNat : Int), ⟨#[]⟩) : Val)).length := by rw [hK, ba_len]
              have hkp : 0 < (vkey ((3, (d.toNat : Int), ⟨#[]⟩) : Val)).length := by
                unfold vkey
                split
                · simp
                · split <;> simp
              have hKX : K.size ≤ X.size := by rw [HXS.out]; omega
              have hKX1 : decide ((X.size : Int) < (K.size : Int)) = false := decide_eq_false (by omega)
              have hKX2 : (K.size : Int) ≤ (X.size : Int) := by omega
              obtain ⟨E, hE⟩ : ∃ E : ByteArray, E = X.extract 0 K.size := ⟨_, rfl⟩
              have hEK : (E.toList == K.toList) = true := by
                have : E.toList = K.toList := by
                  rw [hE, hK, ByteArray.toList_eq, ByteArray.toList_eq, ext_list, HX.out]
                  simp only [List.drop_zero, Nat.sub_zero]
                  rw [heq, ba_len, List.take_left' rfl]
                rw [this]; simp
              have hEe := hE.symm
              obtain ⟨Z, hZ⟩ : ∃ Z : ByteArray, Z = X.extract K.size X.size := ⟨_, rfl⟩
              have hZd : Z = ⟨rest.toArray⟩ := by
                refine ba_eq _ _ ?_
                rw [hZ, ext_list, HX.out, hKs]
                simp only []
                rw [heq, List.drop_left' rfl, List.take_of_length_le (by rw [ba_len, List.length_append]; omega)]
              have hZe := hZ.symm
              have HZ := Lib.hid hZd
              have HRu := Lib.hid hRu
              have HKEY := Lib.hid hkey
              have HVR := Lib.hid hvr
              have hKs2 : K.size ≤ 1000000 := by simp only [List.length_cons] at hlen; omega
              have hrl : rest.length ≤ r.length := by omega
              clear hv1 hvr hcand heq hvV hRu hkey hK hlx hKs hE hZ hZd hR HCD hkp
              go_wp2_with fail
              refine (rright_any ((3, (d.toNat : Int), ⟨#[]⟩) : Val) _).mono ?_
              rintro e w1 ⟨rfl, hb1'⟩
              rw [HVR.out]
              have hz1' := hb1'.size
              have hbw1 := hbW.trans (hb1'.mono (by have := hbW.size; omega))
              have hO1 := own_below HOW.out hb1'
              have a0 := (hb1'.cell (p := ⟨wr.heap.size, 0, none⟩) hWz).trans c0
              have a1 := (hb1'.cell (p := ⟨wr.heap.size, 1, none⟩) hWz).trans c1
              have a2 := (hb1'.cell (p := ⟨wr.heap.size, 2, none⟩) hWz).trans c2
              have HO1 := Lib.hid hO1
              have hWz1 : wr.heap.size < w1.heap.size := by omega
              clear hO1 c0 c1 c2 HOW
              go_wp2_with fail
              refine (HKEY.out _).mono ?_
              rintro e w2 ⟨rfl, hb2'⟩
              have hbw2 := hbw1.trans (hb2'.mono (by have := hbw1.size; omega))
              have hO2 := own_below HO1.out hb2'
              have d0 := (hb2'.cell (p := ⟨wr.heap.size, 0, none⟩) hWz1).trans a0
              have d1 := (hb2'.cell (p := ⟨wr.heap.size, 1, none⟩) hWz1).trans a1
              have d2 := (hb2'.cell (p := ⟨wr.heap.size, 2, none⟩) hWz1).trans a2
              have hz2' := hb2'.size
              have HO2 := Lib.hid hO2
              clear hO2 a0 a1 a2 HO1
              go_wp2_with (at_builtin; refine wpList_append_lies _ rfl (.tmp 113) (.tmp 115) 22 rfl w.heap.size 54 i0 (.agg #[.int .i64 0, .int .i64 0, .string ⟨#[]⟩]) 3 32 Tryd.underlying22 hi iz0 iz1 iz2 rfl (by decide) _ done.length (vcells done) rfl (HO2.out.alloc _) ⟨w2.heap.size, 0, none⟩ 1 1 [.int .i64 (3), .int .i64 ((d.toNat : Int)), .string (⟨#[]⟩)] rfl rfl (cell_three_new _ _ _ _ _) ?c1 (by decide) ?c2 ?c3 ?c4 (w2.heap.size + 1) ?c5 ?_)
              case c1 => simp [Value.oneCell']
              case c2 => unfold maxLen; simp at hlen; omega
              case c3 => simp at hlen; omega
              case c4 => simp; omega
              case c5 => simp
              intro g cap w3 hown3 hgrow hat hgl
              have hb3' := (hbw2.alloc (by omega) _).grown hgrow (by simp; omega) (fun k hk => (HO2.out.lt k hk).1)
              have hO3 : w3.ownsRow w.heap.size 54 3 (.slice (some ⟨g, 0, none⟩) (done.length + 1) cap) (done ++ [((3, (d.toNat : Int), ⟨#[]⟩) : Val)]).length (vcells (done ++ [((3, (d.toNat : Int), ⟨#[]⟩) : Val)])) := by rw [vcells_snoc, List.length_append]; exact hown3
              have HO3 := Lib.hid hO3
              clear hown3 hgrow hat hO3
              go_wp2
              rw [HZ.out]
              refine ⟨⟨f, rest, done ++ [((3, (d.toNat : Int), ⟨#[]⟩) : Val)], some ⟨g, 0, none⟩, cap, rfl, by rw [List.length_append]; rfl, by simp at hf; omega, by simp at hlen ⊢; omega, HRu, by simpa using HO3.out, hb3'⟩, ?_⟩
              show (⟨rest.toArray⟩ : ByteArray).size < X.size
              rw [ba_len, HXS.out]; omega
            · have hRn : R = none := by
                have := hR.out
                simp only [unk] at this
                cases hv : vcut (k :: r) with
                | none => rw [hv] at this; exact this
                | some p =>
                  rw [hv] at this
                  simp only [hno p.1 p.2 (by rw [hv])] at this
                  exact this
              have HRn := Lib.hid hRn
              have hpre := hcand ((3, (d.toNat : Int), ⟨#[]⟩) : Val) HCD.out
              clear hRn hno hcand hR HCD
              cases hvr : vright ((3, (d.toNat : Int), ⟨#[]⟩) : Val) with
              | false =>
                have HVR := Lib.hid hvr
                clear hvr hpre
                go_wp2_with fail
                refine (rright_any ((3, (d.toNat : Int), ⟨#[]⟩) : Val) _).mono ?_
                rintro e w1 ⟨rfl, hb1'⟩
                rw [HVR.out]
                have hbw1 := hbW.trans (hb1'.mono (by have := hbW.size; omega))
                go_wp2
                go_ret2
                rw [HRn.out]
                exact ⟨rfl, hbw1⟩
              | true =>
                obtain ⟨K, hK⟩ : ∃ K : ByteArray, K = ⟨(vkey ((3, (d.toNat : Int), ⟨#[]⟩) : Val)).toArray⟩ := ⟨_, rfl⟩
                have hkey := rkey_any ((3, (d.toNat : Int), ⟨#[]⟩) : Val) hvr hb0 hb1
                rw [← hK] at hkey
                have hne : K.size ≤ X.size → ((X.extract 0 K.size).toList == K.toList) = false := by
                  intro hle
                  refine beq_false_of_ne (fun e => ?_)
                  rw [ByteArray.toList_eq, ByteArray.toList_eq, ext_list, HX.out, hK, ba_len] at e
                  simp only [List.drop_zero, Nat.sub_zero] at e
                  refine hpre hvr ((k :: r).drop (vkey ((3, (d.toNat : Int), ⟨#[]⟩) : Val)).length) ?_
                  rw [← e, List.length_take]
                  have hl2 : (vkey ((3, (d.toNat : Int), ⟨#[]⟩) : Val)).length ≤ (k :: r).length := by rw [hK, ba_len, HXS.out] at hle; rw [List.length_cons]; exact hle
                  rw [Nat.min_eq_left hl2, List.take_append_drop]
                have HVR := Lib.hid hvr
                have HKEY := Lib.hid hkey
                have HNE := Lib.hid hne
                clear hvr hpre hK hkey hne
                go_wp2_with fail
                refine (rright_any ((3, (d.toNat : Int), ⟨#[]⟩) : Val) _).mono ?_
                rintro e w1 ⟨rfl, hb1'⟩
                rw [HVR.out]
                have hz1' := hb1'.size
                have hbw1 := hbW.trans (hb1'.mono (by have := hbW.size; omega))
                have a0 := (hb1'.cell (p := ⟨wr.heap.size, 0, none⟩) hWz).trans c0
                have a1 := (hb1'.cell (p := ⟨wr.heap.size, 1, none⟩) hWz).trans c1
                have a2 := (hb1'.cell (p := ⟨wr.heap.size, 2, none⟩) hWz).trans c2
                clear c0 c1 c2
                go_wp2_with fail
                refine (HKEY.out _).mono ?_
                rintro e w2 ⟨rfl, hb2'⟩
                have hbw2 := hbw1.trans (hb2'.mono (by have := hbw1.size; omega))
                by_cases hle : K.size ≤ X.size
                · have hle1 : decide ((X.size : Int) < (K.size : Int)) = false := decide_eq_false (by omega)
                  have hle2 : (K.size : Int) ≤ (X.size : Int) := by omega
                  have hne := HNE.out hle
                  clear a0 a1 a2
                  go_wp2
                  go_ret2
                  rw [HRn.out]
                  exact ⟨rfl, hbw2⟩
                · have hle1 : decide ((X.size : Int) < (K.size : Int)) = true := decide_eq_true (by omega)
                  clear a0 a1 a2
                  go_wp2
                  go_ret2
                  rw [HRn.out]
                  exact ⟨rfl, hbw2⟩
          · have hcn : cand k r = none := by
              unfold cand
              rw [if_neg hk1, if_neg hk2]
              by_cases h3 : k = 3
              · rw [if_pos h3]
                cases r with
                | nil => rfl
                | cons d t => exact absurd ⟨h3, by simp⟩ hk3
              · rw [if_neg h3]
            have hRn : R = none := by
              rcases ref_cut k r with ⟨v, rest, hv1, hvr, hcand, heq⟩ | ⟨hno, hcand⟩
              · rw [hcn] at hcand; cases hcand
              · have := hR.out
                simp only [unk] at this
                cases hv : vcut (k :: r) with
                | none => rw [hv] at this; exact this
                | some p =>
                  rw [hv] at this
                  simp only [hno p.1 p.2 (by rw [hv])] at this
                  exact this
            have HRn := Lib.hid hRn
            have e2 : ((X[0].toNat : Int) == 2) = false := by rw [HXI.out]; exact beq_false_of_ne (fun e => hk2 (UInt8.toNat_inj.1 (by have : (2 : UInt8).toNat = 2 := rfl; omega)))
            have hx : ((X[0].toNat : Int) == 1) = false ∨ ((X[0].toNat : Int) == 1) = true ∧ decide ((9 : Int) ≤ (X.size : Int)) = false := by
              by_cases h : k = 1
              · right
                exact ⟨by rw [HXI.out, h]; rfl, decide_eq_false (by rw [HXS.out]; have : ¬ 8 ≤ r.length := fun h8 => hk1 ⟨h, h8⟩; omega)⟩
              · left; rw [HXI.out]; exact beq_false_of_ne (fun e => h (UInt8.toNat_inj.1 (by have : (1 : UInt8).toNat = 1 := rfl; omega)))
            have hy : ((X[0].toNat : Int) == 3) = false ∨ ((X[0].toNat : Int) == 3) = true ∧ decide ((2 : Int) ≤ (X.size : Int)) = false := by
              by_cases h : k = 3
              · right
                exact ⟨by rw [HXI.out, h]; rfl, decide_eq_false (by rw [HXS.out]; have : ¬ 1 ≤ r.length := fun h8 => hk3 ⟨h, h8⟩; omega)⟩
              · left; rw [HXI.out]; exact beq_false_of_ne (fun e => h (UInt8.toNat_inj.1 (by have : (3 : UInt8).toNat = 3 := rfl; omega)))
            have HBL := Lib.hid (hbel.alloc hszr)
            clear hcn hRn hR hk1 hk2 hk3 hR0 hlen0 HXI
            rcases hx with hx | ⟨hx, hx2⟩ <;> rcases hy with hy | ⟨hy, hy2⟩
            all_goals
              go_wp2
              go_ret2
              rw [HRn.out]
              exact ⟨rfl, HBL.out _⟩
end Go.Proofs.YtfoejfneggcncaaDoor
