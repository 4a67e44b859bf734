/- The walk of SchemaFits. -/
import Derived.Test.YtapnkbamilkpoaaSOrd
import Derived.Test.YtapnkbamilkpoaaLawPicks
import Derived.Test.YtapnkbamilkpoaaRefKey
import Derived.Test.YtapnkbamilkpoaaSRef2
import Derived.Test.YtapnkbamilkpoaaSRight
import Derived.Test.YtapnkbamilkpoaaSKeys
import Derived.Test.YtapnkbamilkpoaaRSpread
import Derived.Test.YtapnkbamilkpoaaSGreatR
namespace Go.Proofs.Ytapnkbamilkpoaa
open Go.RowKit
set_option maxRecDepth 100000 in
set_option maxHeartbeats 4000000 in
theorem rskey_any (S : Sch) (q : Nat) (x : Idx) (a : Option Addr) (m c : Nat) (vs : List Val) (w : World) (hl : vs.length = m) (hv : Vals w a vs) (hok : ValsOk vs) (hS : SchAt w S) (hr : srightB S = true) (hx : S.xs[q]? = some x) (hf : fitsB S.cs vs = true) :
    Calls Try.prog 24 #[.agg (schCells S), .int .i64 (q : Int), .slice a m c] w fun e w' => e = .returned (.string ⟨(keyS S x vs).toArray⟩) ∧ Below w.heap.size w w' := by
  obtain ⟨x1, x2, x3, x4⟩ := idxs_parts (right_parts hr).2
  have hiN := hS.2.2.1
  have hqn : q < S.iN := by rw [← hiN]; exact (List.getElem?_eq_some_iff.1 hx).1
  obtain ⟨z, hz⟩ : ∃ z, S.xs[0]? = some z := ⟨_, List.getElem?_eq_getElem (by omega)⟩
  obtain ⟨u1, u2, u3⟩ := pick_fits hr (List.mem_of_getElem? hx) hf
  obtain ⟨v1, v2, v3⟩ := pick_fits hr (List.mem_of_getElem? hz) hf
  have lx := x4 x (List.mem_of_getElem? hx)
  have lz := x4 z (List.mem_of_getElem? hz)
  have hfl := (fits_all hf).1
  have hplace : ∀ y ∈ S.xs, ∀ p ∈ y.ps, 0 ≤ p ∧ p < (m : Int) := by
    intro y hy p hp
    have h1 := List.all_eq_true.1 (places_of (right_places hr hy)) p hp
    unfold therB at h1
    simp only [Bool.and_eq_true, decide_eq_true_eq] at h1
    omega
  have hP := fun (y : Idx) (hy : y ∈ S.xs) W (hb : Below w.heap.size w W) (hi : Ints .i64 W y.a y.ps ∧ y.ps.length = y.n) => rpick_any a m c vs y.a y.n y.c y.ps W hl (hv.below hb) hi.2 (by have := x4 y hy; omega) hi.1 (hplace y hy)
  have hK := fun (y : Idx) (hy : y ∈ S.xs) (pa : Option Addr) (pc : Nat) W (hp : Vals W pa (pickL vs y.ps)) => rkeys_any pa _ pc (pickL vs y.ps) W rfl (by obtain ⟨_, h2, _⟩ := pick_fits hr hy hf; have := x4 y hy; omega) hp (by obtain ⟨h1, _, _⟩ := pick_fits hr hy hf; rw [← h1]; exact pickS_ok hok _) (pick_fits hr hy hf).2.2
  have HPx := Lib.hid (hP x (List.mem_of_getElem? hx))
  have HPz := Lib.hid (hP z (List.mem_of_getElem? hz))
  obtain ⟨A, hA⟩ : ∃ A : ByteArray, A = ⟨(vkeys (pickL vs x.ps)).toArray⟩ := ⟨_, rfl⟩
  obtain ⟨B, hB⟩ : ∃ B : ByteArray, B = ⟨(vkeys (pickL vs z.ps)).toArray⟩ := ⟨_, rfl⟩
  have HKx := Lib.hid (hA ▸ hK x (List.mem_of_getElem? hx))
  have HKz := Lib.hid (hB ▸ hK z (List.mem_of_getElem? hz))
  have hAs : A.size ≤ 820000 := by
    have h1 := vkeys_len (pickL vs x.ps) u3
    rw [hA]; show (vkeys (pickL vs x.ps)).toArray.size ≤ _; rw [List.size_toArray]; omega
  have hBs : B.size ≤ 820000 := by
    have h1 := vkeys_len (pickL vs z.ps) v3
    rw [hB]; show (vkeys (pickL vs z.ps)).toArray.size ≤ _; rw [List.size_toArray]; omega
  have r1 : rowKey (pickS vs x.ps) = vkeys (pickL vs x.ps) := by unfold rowKey; rw [if_pos (by rw [u1]; exact u3), u1]
  have r2 : rowKey (pickS vs z.ps) = vkeys (pickL vs z.ps) := by unfold rowKey; rw [if_pos (by rw [v1]; exact v3), v1]
  obtain ⟨Y, hY⟩ : ∃ Y : ByteArray, Y = A ++ B := ⟨_, rfl⟩
  have hYe := hY.symm
  have hks : (⟨(keyS S x vs).toArray⟩ : ByteArray) = if x.u = true then A else Y := by
    unfold keyS
    rw [r1]
    cases hu : x.u with
    | true => rw [if_pos rfl, if_pos rfl, List.append_nil, hA]
    | false =>
      rw [if_neg Bool.false_ne_true, if_neg Bool.false_ne_true, hY, hA, hB]
      cases hxs : S.xs with
      | nil => rw [hxs] at hz; cases hz
      | cons y r =>
        rw [hxs] at hz
        injection hz with hz
        subst hz
        simp only
        rw [r2]
        apply ByteArray.ext
        rw [ByteArray.data_append]; simp
  rw [hks]
  have HSI := Lib.hid hS.2.1
  have HIL := Lib.hid hiN
  have HX := Lib.hid hx
  have HZ := Lib.hid hz
  obtain ⟨name, ca, cn, cc, cs, ia, iN, ic, xs, limit, parts, place⟩ := S
  simp only [] at hqn HSI HIL HX HZ
  simp only [schCells]
  obtain ⟨W1, hW1⟩ : ∃ W1, W1 = w.alloc (.cells #[.string name, .slice ca cn cc, .slice ia iN ic, .int .i64 limit, .int .i64 parts, .int .i64 place] 25) := ⟨_, rfl⟩
  have hA1 : Below w.heap.size w W1 := by rw [hW1]; exact (Below.refl _ _).alloc (Nat.le_refl _) _
  have hk1 : W1.heap[w.heap.size]? = some (.cells #[.string name, .slice ca cn cc, .slice ia iN ic, .int .i64 limit, .int .i64 parts, .int .i64 place] 25 (0, 0)) := by rw [hW1]; exact Array.getElem?_push_size
  have hs1 : w.heap.size < W1.heap.size := by rw [hW1]; simp
  obtain ⟨e0, e1, e2, e3, e4, e5⟩ := six_at hk1
  obtain ⟨bI, oI, x', hae, hbI, hxk, c0, c1, hxi, hxl, _, _⟩ := Idxs.at HSI.out HIL.out hqn hA1
  have hxe : x' = x := Option.some.inj (hxk.symm.trans HX.out)
  subst hxe
  obtain ⟨bz, oz, z', haz, _, hzk, d0, d1, hzi, hzl, _, _⟩ := Idxs.at HSI.out HIL.out (k := 0) (by omega) hA1
  have hze : z' = z := Option.some.inj (hzk.symm.trans HZ.out)
  subst hze
  rw [hae] at haz
  injection haz with haz
  injection haz with hb' ho'
  subst hb' ho'
  rw [Nat.zero_mul, Nat.add_zero] at d0 d1
  subst hae
  have hbI1 : bI < W1.heap.size := by have := hA1.size; omega
  have HK1 := Lib.hid hk1
  have HA1 := Lib.hid hA1
  have HW1 := Lib.hid hW1.symm
  have HXI := Lib.hid hxi
  have HZI := Lib.hid hzi
  obtain ⟨xa, xn, xc, xp, xu⟩ := x'
  obtain ⟨za, zn, zc, zp, zu⟩ := z'
  simp only [] at c0 c1 d0 d1 hxl hzl HPx HPz HKx HKz HXI HZI
  have hq0 : (0 : Int) ≤ (q : Int) := by omega
  have hq1 : (q : Int) < (iN : Int) := by omega
  have hz2 : 0 < iN := by omega
  have hz3 : decide ((0 : Int) < (iN : Int)) = true := decide_eq_true (by omega)
  clear hP hK hA hB r1 r2 hY hks u1 u2 u3 v1 v2 v3 hplace x1 x2 x3 x4 hl hv hok hS hr hx hf hiN hz hA1 hk1 hW1 hxi hzi hxk hzk hfl lx lz
  cases xu with
  | true =>
    go_enter Try.func24, Try.ntmps24
    go_upto_region 1 with fail
    rw [HW1.out]
    go_wp2_with fail
    refine (HPx.out _ HA1.out ⟨HXI.out, hxl⟩).mono ?_
    rintro e w2 ⟨⟨pa, pc, rfl, pv, _⟩, hb2⟩
    have HB2 := Lib.hid (Below.thenB HA1.out HA1.out.size hb2)
    have t1 := (hb2.cell (p := ⟨bI, oI + q * 2 + 1, none⟩) hbI1).trans c1
    have t2 := (hb2.cell (p := ⟨bI, oI, none⟩) hbI1).trans d0
    have HK2 := Lib.hid ((hb2.block w.heap.size hs1).trans HK1.out)
    have hs2 : w.heap.size < w2.heap.size := Nat.lt_of_lt_of_le hs1 hb2.size
    have hbI2 : bI < w2.heap.size := Nat.lt_of_lt_of_le hbI1 hb2.size
    have ZI2 := Lib.hid (HZI.out.below hb2)
    have PV := Lib.hid pv
    clear hb2 pv e0 e1 e2 e3 e4 e5 c0 c1 d0 d1
    go_wp2_with fail
    refine (HKx.out _ _ _ PV.out).mono ?_
    rintro e w3 ⟨rfl, hb3⟩
    have HB3 := Lib.hid (Below.thenB HB2.out HB2.out.size hb3)
    have t3 := (hb3.cell (p := ⟨bI, oI + q * 2 + 1, none⟩) hbI2).trans t1
    have t4 := (hb3.cell (p := ⟨bI, oI, none⟩) hbI2).trans t2
    have HK3 := Lib.hid ((hb3.block w.heap.size hs2).trans HK2.out)
    have hs3 : w.heap.size < w3.heap.size := Nat.lt_of_lt_of_le hs2 hb3.size
    have hbI3 : bI < w3.heap.size := Nat.lt_of_lt_of_le hbI2 hb3.size
    have ZI3 := Lib.hid (ZI2.out.below hb3)
    obtain ⟨g0, g1, g2, g3, g4, g5⟩ := six_at HK3.out
    clear hb3 t1 t2 PV HPx HKx
    go_wp2
    go_ret
    exact ⟨rfl, HB3.out⟩
  | false =>
    go_enter Try.func24, Try.ntmps24
    go_upto_region 1 with fail
    rw [HW1.out]
    go_wp2_with fail
    refine (HPx.out _ HA1.out ⟨HXI.out, hxl⟩).mono ?_
    rintro e w2 ⟨⟨pa, pc, rfl, pv, _⟩, hb2⟩
    have HB2 := Lib.hid (Below.thenB HA1.out HA1.out.size hb2)
    have t1 := (hb2.cell (p := ⟨bI, oI + q * 2 + 1, none⟩) hbI1).trans c1
    have t2 := (hb2.cell (p := ⟨bI, oI, none⟩) hbI1).trans d0
    have HK2 := Lib.hid ((hb2.block w.heap.size hs1).trans HK1.out)
    have hs2 : w.heap.size < w2.heap.size := Nat.lt_of_lt_of_le hs1 hb2.size
    have hbI2 : bI < w2.heap.size := Nat.lt_of_lt_of_le hbI1 hb2.size
    have ZI2 := Lib.hid (HZI.out.below hb2)
    have PV := Lib.hid pv
    clear hb2 pv e0 e1 e2 e3 e4 e5 c0 c1 d0 d1
    go_wp2_with fail
    refine (HKx.out _ _ _ PV.out).mono ?_
    rintro e w3 ⟨rfl, hb3⟩
    have HB3 := Lib.hid (Below.thenB HB2.out HB2.out.size hb3)
    have t3 := (hb3.cell (p := ⟨bI, oI + q * 2 + 1, none⟩) hbI2).trans t1
    have t4 := (hb3.cell (p := ⟨bI, oI, none⟩) hbI2).trans t2
    have HK3 := Lib.hid ((hb3.block w.heap.size hs2).trans HK2.out)
    have hs3 : w.heap.size < w3.heap.size := Nat.lt_of_lt_of_le hs2 hb3.size
    have hbI3 : bI < w3.heap.size := Nat.lt_of_lt_of_le hbI2 hb3.size
    have ZI3 := Lib.hid (ZI2.out.below hb3)
    obtain ⟨g0, g1, g2, g3, g4, g5⟩ := six_at HK3.out
    clear hb3 t1 t2 PV HPx HKx
    go_wp2_with fail
    refine (HPz.out _ HB3.out ⟨ZI3.out, hzl⟩).mono ?_
    rintro e w4 ⟨⟨qa, qc, rfl, qv, _⟩, hb4⟩
    have HB4 := Lib.hid (Below.thenB HB3.out HB3.out.size hb4)
    have QV := Lib.hid qv
    clear hb4 qv g0 g1 g2 g3 g4 g5 t3 t4
    go_wp2_with fail
    refine (HKz.out _ _ _ QV.out).mono ?_
    rintro e w5 ⟨rfl, hb5⟩
    have hB := Below.thenB HB4.out HB4.out.size hb5
    go_wp2
    go_ret
    exact ⟨rfl, hB⟩
theorem key_ret_A {S : Sch} {i : Int} {vs : List Val} {e : Ending} (h : KeyRet S i vs e) (hn : srightB S = false ∨ ¬ (0 ≤ i ∧ i < (S.xs.length : Int))) : e = .returned (.tuple #[.string ⟨#[]⟩, .int .i64 1]) := by
  rcases h with ⟨_, h⟩ | ⟨⟨h1, h2, _⟩, _⟩ | ⟨x, ⟨h1, h2, h3, _⟩, _⟩
  · exact h
  · rcases hn with hn | hn
    · rw [hn] at h1; cases h1
    · exact absurd h2 hn
  · rcases hn with hn | hn
    · rw [hn] at h1; cases h1
    · have := (List.getElem?_eq_some_iff.1 h3).1; exact absurd ⟨h2, by omega⟩ hn
theorem key_ret_B {S : Sch} {i : Int} {vs : List Val} {e : Ending} (h : KeyRet S i vs e) (hr : srightB S = true) (hi : 0 ≤ i ∧ i < (S.xs.length : Int)) (hf : fitsB S.cs vs = false) : e = .returned (.tuple #[.string ⟨#[]⟩, .int .i64 13]) := by
  rcases h with ⟨h | h, _⟩ | ⟨_, h⟩ | ⟨x, ⟨_, _, _, h⟩, _⟩
  · rw [hr] at h; cases h
  · exact absurd hi h
  · exact h
  · rw [hf] at h; cases h
theorem key_ret_C {S : Sch} {q : Nat} {x : Idx} {vs : List Val} {e : Ending} (h : KeyRet S (q : Int) vs e) (hr : srightB S = true) (hx : S.xs[q]? = some x) (hf : fitsB S.cs vs = true) : e = .returned (.tuple #[.string ⟨(keyS S x vs).toArray⟩, .int .i64 0]) := by
  rcases h with ⟨h | h, _⟩ | ⟨⟨_, _, h⟩, _⟩ | ⟨y, ⟨_, _, h, _⟩, he⟩
  · rw [hr] at h; cases h
  · exact absurd ⟨by omega, by have := (List.getElem?_eq_some_iff.1 hx).1; omega⟩ h
  · rw [hf] at h; cases h
  · rw [Int.toNat_natCast, hx] at h
    injection h with h
    rw [h]; exact he
theorem keys_ret_AB {S : Sch} {vs : List Val} {e : Ending} {W : World} {r f : Bool} (h : KeysRet S vs e W) (hr : srightB S = r) (hf : fitsB S.cs vs = f) (hn : r = false ∨ f = false) : e = .returned (.tuple #[.slice none 0 0, .int .i64 (if r = true then 13 else 1)]) := by
  rcases h with ⟨h1, h⟩ | ⟨⟨h1, h2⟩, h⟩ | ⟨⟨h1, h2⟩, _⟩
  · rw [hr] at h1; rw [h1]; exact h
  · rw [hr] at h1; rw [h1]; exact h
  · rw [hr] at h1; rw [hf] at h2
    rcases hn with hn | hn
    · rw [hn] at h1; cases h1
    · rw [hn] at h2; cases h2
theorem keys_ret_C {S : Sch} {vs : List Val} {e : Ending} {W : World} (h : KeysRet S vs e W) (hr : srightB S = true) (hf : fitsB S.cs vs = true) : ∃ a c, e = .returned (.tuple #[.slice a S.xs.length c, .int .i64 0]) ∧ Texts W a (keysS S vs S.xs) := by
  rcases h with ⟨h1, _⟩ | ⟨⟨_, h2⟩, _⟩ | ⟨_, h⟩
  · rw [hr] at h1; cases h1
  · rw [hf] at h2; cases h2
  · exact h
theorem part_ret_AB {S : Sch} {vs : List Val} {e : Ending} {r f : Bool} (h : PartRet S vs e) (hr : srightB S = r) (hf : fitsB S.cs vs = f) (hn : r = false ∨ f = false) : e = .returned (.tuple #[.int .i64 0, .int .i64 (if r = true then 13 else 1)]) := by
  rcases h with ⟨h1, h⟩ | ⟨⟨h1, h2⟩, h⟩ | ⟨v, ⟨h1, h2, _⟩, _⟩
  · rw [hr] at h1; rw [h1]; exact h
  · rw [hr] at h1; rw [h1]; exact h
  · rw [hr] at h1; rw [hf] at h2
    rcases hn with hn | hn
    · rw [hn] at h1; cases h1
    · rw [hn] at h2; cases h2
theorem part_ret_C {S : Sch} {vs : List Val} {e : Ending} {v : Val} (h : PartRet S vs e) (hr : srightB S = true) (hf : fitsB S.cs vs = true) (hv : vs[S.place.toNat]? = some v) : e = .returned (.tuple #[.int .i64 (vsum v % S.parts), .int .i64 0]) := by
  rcases h with ⟨h1, _⟩ | ⟨⟨_, h2⟩, _⟩ | ⟨u, ⟨_, _, h3⟩, h⟩
  · rw [hr] at h1; cases h1
  · rw [hf] at h2; cases h2
  · rw [hv] at h3; injection h3 with h3; rw [h3]; exact h
set_option maxRecDepth 100000 in
set_option maxHeartbeats 16000000 in
theorem sfits_walk (v0 : Value) (S : Sch) (v1 : Value) (us : List Val) (v2 : Value) (ix : Int) (w : World) (y0 : SArg w v0 S) (y1 : VArg w v1 us) (y2 : v2 = .int .i64 ix ∧ (Lit.int .i64 ix).wf = true) :
    Calls Try.prog 4 #[v0, v1, v2] w fun e w' => e = .returned (.bool true) ∧ Below w.heap.size w w' := by
  obtain ⟨rfl, hSM, hok⟩ := y0
  obtain ⟨a, m, c, rfl, hl, hmc, hcm, hu, ou⟩ := y1
  obtain ⟨rfl, hw3⟩ := y2
  have HA := Lib.hid awake3
  have hG := fun W (hb : Below w.heap.size w W) => sgreat_any S W (hSM.below hb) hok.1 (fun x hx => (hok.2.1 x hx).1)
  have hg1 := fun W (hb : Below w.heap.size w W) => great_any a m c us W hl (by omega) (hu.below hb) ou
  obtain ⟨G, hGe⟩ : ∃ G, G = sgreatB S := ⟨_, rfl⟩
  obtain ⟨G1, hG1e⟩ : ∃ G, G = greatB us := ⟨_, rfl⟩
  rw [← hGe] at hG
  rw [← hG1e] at hg1
  obtain ⟨W1, hW1⟩ : ∃ W1, W1 = w.alloc (.cells (schCells S) 25) := ⟨_, rfl⟩
  have hA1 : Below w.heap.size w W1 := by rw [hW1]; exact (Below.refl _ _).alloc (Nat.le_refl _) _
  have hk1 : W1.heap[w.heap.size]? = some (.cells (schCells S) 25 (0, 0)) := by rw [hW1]; exact Array.getElem?_push_size
  have hs1 : w.heap.size < W1.heap.size := by rw [hW1]; simp
  have HG := Lib.hid (hG W1 hA1)
  have HG1 := Lib.hid hg1
  have HK1 := Lib.hid hk1
  have HB1 := Lib.hid hA1
  have HW1 := Lib.hid hW1.symm
  have HU := Lib.hid hu
  have HL := Lib.hid hl
  have HOU := Lib.hid ou
  have hS0 := fun h : G = false => sgreat_at (hGe.symm.trans h) hSM
  have hS1 := fun h : G = false => sgreat_not (hGe.symm.trans h)
  have hm0 := fun h : G1 = false => (great_not (hG1e.symm.trans h)).1
  rw [hl] at hm0
  have HS0 := Lib.hid hS0
  have HS1 := Lib.hid hS1
  have HM0 := Lib.hid hm0
  obtain ⟨e0, e1, e2, e3, e4, e5⟩ := six_at hk1
  clear hG hg1 hGe hG1e hS0 hS1 hm0 hA1 hk1 hW1 hSM hok hu hl ou hw3
  cases G with
  | true =>
    clear HS0 HS1
    go_enter Try.func4, Try.ntmps4
    go_upto_region 1 with fail
    rw [HW1.out]
    go_wp2_with fail
    refine HG.out.mono ?_
    rintro e w2 ⟨rfl, hb2⟩
    have HB2 := Lib.hid (Below.thenB HB1.out HB1.out.size hb2)
    clear hb2
    go_wp2_with fail
    refine (HA.out _).mono ?_
    rintro e w3 ⟨rfl, hb3⟩
    have hB := Below.thenB HB2.out HB2.out.size hb3
    go_wp2
    go_ret
    exact ⟨rfl, hB⟩
  | false =>
  have HS := Lib.hid (HS0.out rfl)
  obtain ⟨s1, s2, s3, s4, s5⟩ := HS1.out rfl
  have HS4 := Lib.hid s4
  clear HS0 HS1 s4 s5
  cases G1 with
  | true =>
    clear HM0
    go_enter Try.func4, Try.ntmps4
    go_upto_region 1 with fail
    rw [HW1.out]
    go_wp2_with fail
    refine HG.out.mono ?_
    rintro e w2 ⟨rfl, hb2⟩
    have HB2 := Lib.hid (Below.thenB HB1.out HB1.out.size hb2)
    clear hb2
    go_wp2_with fail
    refine (HG1.out _ HB2.out).mono ?_
    rintro e w3 ⟨rfl, rfl⟩
    go_wp2_with fail
    refine (HA.out _).mono ?_
    rintro e w3 ⟨rfl, hb3⟩
    have hB := Below.thenB HB2.out HB2.out.size hb3
    go_wp2
    go_ret
    exact ⟨rfl, hB⟩
  | false =>
  have h30 := HM0.out rfl
  clear HM0
  have hR := fun W (hb : Below w.heap.size w W) => rsright_any S W (HS.out.below hb) (by omega) (fun x hx => by have := HS4.out x hx; omega)
  have hF := fun W (hb : Below w.heap.size w W) => rfits_any S a m c us W (HS.out.below hb) HL.out (by omega) (HU.out.below hb)
  have hT := fun W (hb : Below w.heap.size w W) => Fits_any S a m c us W (HS.out.below hb) HL.out (HU.out.below hb)
  have hKY := fun W (hb : Below w.heap.size w W) => Key_any S ix a m c us W HL.out (by omega) (HU.out.below hb) HOU.out (HS.out.below hb)
  have hKS := fun W (hb : Below w.heap.size w W) => Keys_any S a m c us W HL.out (by omega) (HU.out.below hb) HOU.out (HS.out.below hb)
  have hPT := fun W (hb : Below w.heap.size w W) => Part_any S a m c us W (HS.out.below hb) HL.out (HU.out.below hb)
  obtain ⟨r, hr⟩ : ∃ r, r = srightB S := ⟨_, rfl⟩
  obtain ⟨f, hf⟩ : ∃ f, f = fitsB S.cs us := ⟨_, rfl⟩
  rw [← hr] at hR hT
  rw [← hf] at hF hT
  have HR := Lib.hid hR
  have HF := Lib.hid hF
  have HT := Lib.hid hT
  have HRR := Lib.hid hr.symm
  have HFF := Lib.hid hf.symm
  have HKY := Lib.hid hKY
  have HKS := Lib.hid hKS
  have HPT := Lib.hid hPT
  clear hR hF hT hr hf hKY hKS hPT
  cases r with
  | false =>
    have HK := Lib.hid (fun W (hb : Below w.heap.size w W) => (HKY.out W hb).mono (fun e w' h => (⟨key_ret_A h.1 (.inl HRR.out), h.2⟩ : _ ∧ Below W.heap.size W w')))
    have HKs := Lib.hid (fun W (hb : Below w.heap.size w W) => (HKS.out W hb).mono (fun e w' h => (⟨keys_ret_AB h.1 HRR.out HFF.out (.inl rfl), h.2⟩ : _ ∧ Below W.heap.size W w')))
    have HP := Lib.hid (fun W (hb : Below w.heap.size w W) => (HPT.out W hb).mono (fun e w' h => (⟨part_ret_AB h.1 HRR.out HFF.out (.inl rfl), h.2⟩ : _ ∧ Below W.heap.size W w')))
    clear HKY HKS HPT
    simp only [Bool.false_eq_true, ↓reduceIte] at HKs HP
    obtain ⟨name, ca, cn, cc, cs, ia, iN, ic, xs, limit, parts, place⟩ := S
    simp only [schCells] at HG HR HF HT HK HKs HP HW1 HK1 e0 e1 e2 e3 e4 e5
    go_enter Try.func4, Try.ntmps4
    go_upto_region 1 with fail
    rw [HW1.out]
    clear HW1
    go_wp2_with fail
    refine (HG.out).mono ?_
    rintro e w2 ⟨rfl, hb2⟩
    have HB2 := Lib.hid (Below.thenB HB1.out HB1.out.size hb2)
    have HK2 := Lib.hid ((hb2.block w.heap.size hs1).trans HK1.out)
    have hs2 : w.heap.size < w2.heap.size := Nat.lt_of_lt_of_le hs1 hb2.size
    clear e0 e1 e2 e3 e4 e5
    obtain ⟨e0, e1, e2, e3, e4, e5⟩ := six_at HK2.out
    clear HK1 HB1
    go_wp2_with fail
    refine (HG1.out _ HB2.out).mono ?_
    rintro e w3 ⟨rfl, rfl⟩
    go_wp2_with fail
    refine (HR.out _ HB2.out).mono ?_
    rintro e w3 ⟨rfl, hb3⟩
    have HB3 := Lib.hid (Below.thenB HB2.out HB2.out.size hb3)
    have HK3 := Lib.hid ((hb3.block w.heap.size hs2).trans HK2.out)
    have hs3 : w.heap.size < w3.heap.size := Nat.lt_of_lt_of_le hs2 hb3.size
    clear e0 e1 e2 e3 e4 e5
    obtain ⟨e0, e1, e2, e3, e4, e5⟩ := six_at HK3.out
    clear HK2 HB2
    go_wp2_with fail
    refine (HK.out _ HB3.out).mono ?_
    rintro e w5 ⟨rfl, hb5⟩
    have HB5 := Lib.hid (Below.thenB HB3.out HB3.out.size hb5)
    have HK5 := Lib.hid ((hb5.block w.heap.size hs3).trans HK3.out)
    have hs5 : w.heap.size < w5.heap.size := Nat.lt_of_lt_of_le hs3 hb5.size
    clear e0 e1 e2 e3 e4 e5
    obtain ⟨e0, e1, e2, e3, e4, e5⟩ := six_at HK5.out
    clear HK3 HB3
    go_wp2_with fail
    refine (HKs.out _ HB5.out).mono ?_
    rintro e w6 ⟨rfl, hb6⟩
    have HB6 := Lib.hid (Below.thenB HB5.out HB5.out.size hb6)
    have HK6 := Lib.hid ((hb6.block w.heap.size hs5).trans HK5.out)
    have hs6 : w.heap.size < w6.heap.size := Nat.lt_of_lt_of_le hs5 hb6.size
    clear e0 e1 e2 e3 e4 e5
    obtain ⟨e0, e1, e2, e3, e4, e5⟩ := six_at HK6.out
    clear HK5 HB5
    go_wp2_with fail
    refine (HP.out _ HB6.out).mono ?_
    rintro e w7 ⟨rfl, hb7⟩
    have HB7 := Lib.hid (Below.thenB HB6.out HB6.out.size hb7)
    have HK7 := Lib.hid ((hb7.block w.heap.size hs6).trans HK6.out)
    have hs7 : w.heap.size < w7.heap.size := Nat.lt_of_lt_of_le hs6 hb7.size
    clear e0 e1 e2 e3 e4 e5
    obtain ⟨e0, e1, e2, e3, e4, e5⟩ := six_at HK7.out
    clear HK6 HB6
    go_wp2_with fail
    refine (HT.out _ HB7.out).mono ?_
    rintro e w8 ⟨rfl, hb8⟩
    have HB8 := Lib.hid (Below.thenB HB7.out HB7.out.size hb8)
    have HK8 := Lib.hid ((hb8.block w.heap.size hs7).trans HK7.out)
    have hs8 : w.heap.size < w8.heap.size := Nat.lt_of_lt_of_le hs7 hb8.size
    clear e0 e1 e2 e3 e4 e5
    obtain ⟨e0, e1, e2, e3, e4, e5⟩ := six_at HK8.out
    clear HK7 HB7
    go_wp2_with fail
    refine (HA.out _).mono ?_
    rintro e w9 ⟨rfl, hb9⟩
    have hB := Below.thenB HB8.out HB8.out.size hb9
    go_wp2
    go_ret
    exact ⟨rfl, hB⟩

  | true =>
  have hiN := HS.out.2.2.1
  cases f with
  | false =>
    by_cases hin : 0 ≤ ix ∧ ix < (S.xs.length : Int)
    · have HK := Lib.hid (fun W (hb : Below w.heap.size w W) => (HKY.out W hb).mono (fun e w' h => (⟨key_ret_B h.1 HRR.out hin HFF.out, h.2⟩ : _ ∧ Below W.heap.size W w')))
      have HKs := Lib.hid (fun W (hb : Below w.heap.size w W) => (HKS.out W hb).mono (fun e w' h => (⟨keys_ret_AB h.1 HRR.out HFF.out (.inr rfl), h.2⟩ : _ ∧ Below W.heap.size W w')))
      have HP := Lib.hid (fun W (hb : Below w.heap.size w W) => (HPT.out W hb).mono (fun e w' h => (⟨part_ret_AB h.1 HRR.out HFF.out (.inr rfl), h.2⟩ : _ ∧ Below W.heap.size W w')))
      clear HKY HKS HPT
      simp only [↓reduceIte] at HKs HP
      have d1 : decide (0 ≤ ix) = true := decide_eq_true hin.1
      have d2 : decide (ix < (S.iN : Int)) = true := decide_eq_true (by rw [← hiN]; exact hin.2)
      obtain ⟨name, ca, cn, cc, cs, ia, iN, ic, xs, limit, parts, place⟩ := S
      simp only [schCells] at HG HR HF HT HK HKs HP HW1 HK1 e0 e1 e2 e3 e4 e5
      simp only [] at d2
      clear hin hiN
      go_enter Try.func4, Try.ntmps4
      go_upto_region 1 with fail
      rw [HW1.out]
      clear HW1
      go_wp2_with fail
      refine (HG.out).mono ?_
      rintro e w2 ⟨rfl, hb2⟩
      have HB2 := Lib.hid (Below.thenB HB1.out HB1.out.size hb2)
      have HK2 := Lib.hid ((hb2.block w.heap.size hs1).trans HK1.out)
      have hs2 : w.heap.size < w2.heap.size := Nat.lt_of_lt_of_le hs1 hb2.size
      clear e0 e1 e2 e3 e4 e5
      obtain ⟨e0, e1, e2, e3, e4, e5⟩ := six_at HK2.out
      clear HK1 HB1
      go_wp2_with fail
      refine (HG1.out _ HB2.out).mono ?_
      rintro e w3 ⟨rfl, rfl⟩
      go_wp2_with fail
      refine (HR.out _ HB2.out).mono ?_
      rintro e w3 ⟨rfl, hb3⟩
      have HB3 := Lib.hid (Below.thenB HB2.out HB2.out.size hb3)
      have HK3 := Lib.hid ((hb3.block w.heap.size hs2).trans HK2.out)
      have hs3 : w.heap.size < w3.heap.size := Nat.lt_of_lt_of_le hs2 hb3.size
      clear e0 e1 e2 e3 e4 e5
      obtain ⟨e0, e1, e2, e3, e4, e5⟩ := six_at HK3.out
      clear HK2 HB2
      go_wp2_with fail
      refine (HF.out _ HB3.out).mono ?_
      rintro e w4 ⟨rfl, hb4⟩
      have HB4 := Lib.hid (Below.thenB HB3.out HB3.out.size hb4)
      have HK4 := Lib.hid ((hb4.block w.heap.size hs3).trans HK3.out)
      have hs4 : w.heap.size < w4.heap.size := Nat.lt_of_lt_of_le hs3 hb4.size
      clear e0 e1 e2 e3 e4 e5
      obtain ⟨e0, e1, e2, e3, e4, e5⟩ := six_at HK4.out
      clear HK3 HB3
      go_wp2_with fail
      refine (HK.out _ HB4.out).mono ?_
      rintro e w5 ⟨rfl, hb5⟩
      have HB5 := Lib.hid (Below.thenB HB4.out HB4.out.size hb5)
      have HK5 := Lib.hid ((hb5.block w.heap.size hs4).trans HK4.out)
      have hs5 : w.heap.size < w5.heap.size := Nat.lt_of_lt_of_le hs4 hb5.size
      clear e0 e1 e2 e3 e4 e5
      obtain ⟨e0, e1, e2, e3, e4, e5⟩ := six_at HK5.out
      clear HK4 HB4
      go_wp2_with fail
      refine (HKs.out _ HB5.out).mono ?_
      rintro e w6 ⟨rfl, hb6⟩
      have HB6 := Lib.hid (Below.thenB HB5.out HB5.out.size hb6)
      have HK6 := Lib.hid ((hb6.block w.heap.size hs5).trans HK5.out)
      have hs6 : w.heap.size < w6.heap.size := Nat.lt_of_lt_of_le hs5 hb6.size
      clear e0 e1 e2 e3 e4 e5
      obtain ⟨e0, e1, e2, e3, e4, e5⟩ := six_at HK6.out
      clear HK5 HB5
      go_wp2_with fail
      refine (HP.out _ HB6.out).mono ?_
      rintro e w7 ⟨rfl, hb7⟩
      have HB7 := Lib.hid (Below.thenB HB6.out HB6.out.size hb7)
      have HK7 := Lib.hid ((hb7.block w.heap.size hs6).trans HK6.out)
      have hs7 : w.heap.size < w7.heap.size := Nat.lt_of_lt_of_le hs6 hb7.size
      clear e0 e1 e2 e3 e4 e5
      obtain ⟨e0, e1, e2, e3, e4, e5⟩ := six_at HK7.out
      clear HK6 HB6
      go_wp2_with fail
      refine (HT.out _ HB7.out).mono ?_
      rintro e w8 ⟨rfl, hb8⟩
      have HB8 := Lib.hid (Below.thenB HB7.out HB7.out.size hb8)
      have HK8 := Lib.hid ((hb8.block w.heap.size hs7).trans HK7.out)
      have hs8 : w.heap.size < w8.heap.size := Nat.lt_of_lt_of_le hs7 hb8.size
      clear e0 e1 e2 e3 e4 e5
      obtain ⟨e0, e1, e2, e3, e4, e5⟩ := six_at HK8.out
      clear HK7 HB7
      go_wp2_with fail
      refine (HA.out _).mono ?_
      rintro e w9 ⟨rfl, hb9⟩
      have hB := Below.thenB HB8.out HB8.out.size hb9
      go_wp2
      go_ret
      exact ⟨rfl, hB⟩

    · have HK := Lib.hid (fun W (hb : Below w.heap.size w W) => (HKY.out W hb).mono (fun e w' h => (⟨key_ret_A h.1 (.inr hin), h.2⟩ : _ ∧ Below W.heap.size W w')))
      have HKs := Lib.hid (fun W (hb : Below w.heap.size w W) => (HKS.out W hb).mono (fun e w' h => (⟨keys_ret_AB h.1 HRR.out HFF.out (.inr rfl), h.2⟩ : _ ∧ Below W.heap.size W w')))
      have HP := Lib.hid (fun W (hb : Below w.heap.size w W) => (HPT.out W hb).mono (fun e w' h => (⟨part_ret_AB h.1 HRR.out HFF.out (.inr rfl), h.2⟩ : _ ∧ Below W.heap.size W w')))
      clear HKY HKS HPT
      simp only [↓reduceIte] at HKs HP
      by_cases h0 : 0 ≤ ix
      · have d1 : decide (0 ≤ ix) = true := decide_eq_true h0
        have d2 : decide (ix < (S.iN : Int)) = false := decide_eq_false (by rw [← hiN]; exact fun h => hin ⟨h0, h⟩)
        obtain ⟨name, ca, cn, cc, cs, ia, iN, ic, xs, limit, parts, place⟩ := S
        simp only [schCells] at HG HR HF HT HK HKs HP HW1 HK1 e0 e1 e2 e3 e4 e5
        simp only [] at d2
        clear hin hiN h0
        go_enter Try.func4, Try.ntmps4
        go_upto_region 1 with fail
        rw [HW1.out]
        clear HW1
        go_wp2_with fail
        refine (HG.out).mono ?_
        rintro e w2 ⟨rfl, hb2⟩
        have HB2 := Lib.hid (Below.thenB HB1.out HB1.out.size hb2)
        have HK2 := Lib.hid ((hb2.block w.heap.size hs1).trans HK1.out)
        have hs2 : w.heap.size < w2.heap.size := Nat.lt_of_lt_of_le hs1 hb2.size
        clear e0 e1 e2 e3 e4 e5
        obtain ⟨e0, e1, e2, e3, e4, e5⟩ := six_at HK2.out
        clear HK1 HB1
        go_wp2_with fail
        refine (HG1.out _ HB2.out).mono ?_
        rintro e w3 ⟨rfl, rfl⟩
        go_wp2_with fail
        refine (HR.out _ HB2.out).mono ?_
        rintro e w3 ⟨rfl, hb3⟩
        have HB3 := Lib.hid (Below.thenB HB2.out HB2.out.size hb3)
        have HK3 := Lib.hid ((hb3.block w.heap.size hs2).trans HK2.out)
        have hs3 : w.heap.size < w3.heap.size := Nat.lt_of_lt_of_le hs2 hb3.size
        clear e0 e1 e2 e3 e4 e5
        obtain ⟨e0, e1, e2, e3, e4, e5⟩ := six_at HK3.out
        clear HK2 HB2
        go_wp2_with fail
        refine (HF.out _ HB3.out).mono ?_
        rintro e w4 ⟨rfl, hb4⟩
        have HB4 := Lib.hid (Below.thenB HB3.out HB3.out.size hb4)
        have HK4 := Lib.hid ((hb4.block w.heap.size hs3).trans HK3.out)
        have hs4 : w.heap.size < w4.heap.size := Nat.lt_of_lt_of_le hs3 hb4.size
        clear e0 e1 e2 e3 e4 e5
        obtain ⟨e0, e1, e2, e3, e4, e5⟩ := six_at HK4.out
        clear HK3 HB3
        go_wp2_with fail
        refine (HK.out _ HB4.out).mono ?_
        rintro e w5 ⟨rfl, hb5⟩
        have HB5 := Lib.hid (Below.thenB HB4.out HB4.out.size hb5)
        have HK5 := Lib.hid ((hb5.block w.heap.size hs4).trans HK4.out)
        have hs5 : w.heap.size < w5.heap.size := Nat.lt_of_lt_of_le hs4 hb5.size
        clear e0 e1 e2 e3 e4 e5
        obtain ⟨e0, e1, e2, e3, e4, e5⟩ := six_at HK5.out
        clear HK4 HB4
        go_wp2_with fail
        refine (HKs.out _ HB5.out).mono ?_
        rintro e w6 ⟨rfl, hb6⟩
        have HB6 := Lib.hid (Below.thenB HB5.out HB5.out.size hb6)
        have HK6 := Lib.hid ((hb6.block w.heap.size hs5).trans HK5.out)
        have hs6 : w.heap.size < w6.heap.size := Nat.lt_of_lt_of_le hs5 hb6.size
        clear e0 e1 e2 e3 e4 e5
        obtain ⟨e0, e1, e2, e3, e4, e5⟩ := six_at HK6.out
        clear HK5 HB5
        go_wp2_with fail
        refine (HP.out _ HB6.out).mono ?_
        rintro e w7 ⟨rfl, hb7⟩
        have HB7 := Lib.hid (Below.thenB HB6.out HB6.out.size hb7)
        have HK7 := Lib.hid ((hb7.block w.heap.size hs6).trans HK6.out)
        have hs7 : w.heap.size < w7.heap.size := Nat.lt_of_lt_of_le hs6 hb7.size
        clear e0 e1 e2 e3 e4 e5
        obtain ⟨e0, e1, e2, e3, e4, e5⟩ := six_at HK7.out
        clear HK6 HB6
        go_wp2_with fail
        refine (HT.out _ HB7.out).mono ?_
        rintro e w8 ⟨rfl, hb8⟩
        have HB8 := Lib.hid (Below.thenB HB7.out HB7.out.size hb8)
        have HK8 := Lib.hid ((hb8.block w.heap.size hs7).trans HK7.out)
        have hs8 : w.heap.size < w8.heap.size := Nat.lt_of_lt_of_le hs7 hb8.size
        clear e0 e1 e2 e3 e4 e5
        obtain ⟨e0, e1, e2, e3, e4, e5⟩ := six_at HK8.out
        clear HK7 HB7
        go_wp2_with fail
        refine (HA.out _).mono ?_
        rintro e w9 ⟨rfl, hb9⟩
        have hB := Below.thenB HB8.out HB8.out.size hb9
        go_wp2
        go_ret
        exact ⟨rfl, hB⟩

      · have d1 : decide (0 ≤ ix) = false := decide_eq_false h0
        obtain ⟨name, ca, cn, cc, cs, ia, iN, ic, xs, limit, parts, place⟩ := S
        simp only [schCells] at HG HR HF HT HK HKs HP HW1 HK1 e0 e1 e2 e3 e4 e5
        clear hin hiN h0
        go_enter Try.func4, Try.ntmps4
        go_upto_region 1 with fail
        rw [HW1.out]
        clear HW1
        go_wp2_with fail
        refine (HG.out).mono ?_
        rintro e w2 ⟨rfl, hb2⟩
        have HB2 := Lib.hid (Below.thenB HB1.out HB1.out.size hb2)
        have HK2 := Lib.hid ((hb2.block w.heap.size hs1).trans HK1.out)
        have hs2 : w.heap.size < w2.heap.size := Nat.lt_of_lt_of_le hs1 hb2.size
        clear e0 e1 e2 e3 e4 e5
        obtain ⟨e0, e1, e2, e3, e4, e5⟩ := six_at HK2.out
        clear HK1 HB1
        go_wp2_with fail
        refine (HG1.out _ HB2.out).mono ?_
        rintro e w3 ⟨rfl, rfl⟩
        go_wp2_with fail
        refine (HR.out _ HB2.out).mono ?_
        rintro e w3 ⟨rfl, hb3⟩
        have HB3 := Lib.hid (Below.thenB HB2.out HB2.out.size hb3)
        have HK3 := Lib.hid ((hb3.block w.heap.size hs2).trans HK2.out)
        have hs3 : w.heap.size < w3.heap.size := Nat.lt_of_lt_of_le hs2 hb3.size
        clear e0 e1 e2 e3 e4 e5
        obtain ⟨e0, e1, e2, e3, e4, e5⟩ := six_at HK3.out
        clear HK2 HB2
        go_wp2_with fail
        refine (HF.out _ HB3.out).mono ?_
        rintro e w4 ⟨rfl, hb4⟩
        have HB4 := Lib.hid (Below.thenB HB3.out HB3.out.size hb4)
        have HK4 := Lib.hid ((hb4.block w.heap.size hs3).trans HK3.out)
        have hs4 : w.heap.size < w4.heap.size := Nat.lt_of_lt_of_le hs3 hb4.size
        clear e0 e1 e2 e3 e4 e5
        obtain ⟨e0, e1, e2, e3, e4, e5⟩ := six_at HK4.out
        clear HK3 HB3
        go_wp2_with fail
        refine (HK.out _ HB4.out).mono ?_
        rintro e w5 ⟨rfl, hb5⟩
        have HB5 := Lib.hid (Below.thenB HB4.out HB4.out.size hb5)
        have HK5 := Lib.hid ((hb5.block w.heap.size hs4).trans HK4.out)
        have hs5 : w.heap.size < w5.heap.size := Nat.lt_of_lt_of_le hs4 hb5.size
        clear e0 e1 e2 e3 e4 e5
        obtain ⟨e0, e1, e2, e3, e4, e5⟩ := six_at HK5.out
        clear HK4 HB4
        go_wp2_with fail
        refine (HKs.out _ HB5.out).mono ?_
        rintro e w6 ⟨rfl, hb6⟩
        have HB6 := Lib.hid (Below.thenB HB5.out HB5.out.size hb6)
        have HK6 := Lib.hid ((hb6.block w.heap.size hs5).trans HK5.out)
        have hs6 : w.heap.size < w6.heap.size := Nat.lt_of_lt_of_le hs5 hb6.size
        clear e0 e1 e2 e3 e4 e5
        obtain ⟨e0, e1, e2, e3, e4, e5⟩ := six_at HK6.out
        clear HK5 HB5
        go_wp2_with fail
        refine (HP.out _ HB6.out).mono ?_
        rintro e w7 ⟨rfl, hb7⟩
        have HB7 := Lib.hid (Below.thenB HB6.out HB6.out.size hb7)
        have HK7 := Lib.hid ((hb7.block w.heap.size hs6).trans HK6.out)
        have hs7 : w.heap.size < w7.heap.size := Nat.lt_of_lt_of_le hs6 hb7.size
        clear e0 e1 e2 e3 e4 e5
        obtain ⟨e0, e1, e2, e3, e4, e5⟩ := six_at HK7.out
        clear HK6 HB6
        go_wp2_with fail
        refine (HT.out _ HB7.out).mono ?_
        rintro e w8 ⟨rfl, hb8⟩
        have HB8 := Lib.hid (Below.thenB HB7.out HB7.out.size hb8)
        have HK8 := Lib.hid ((hb8.block w.heap.size hs7).trans HK7.out)
        have hs8 : w.heap.size < w8.heap.size := Nat.lt_of_lt_of_le hs7 hb8.size
        clear e0 e1 e2 e3 e4 e5
        obtain ⟨e0, e1, e2, e3, e4, e5⟩ := six_at HK8.out
        clear HK7 HB7
        go_wp2_with fail
        refine (HA.out _).mono ?_
        rintro e w9 ⟨rfl, hb9⟩
        have hB := Below.thenB HB8.out HB8.out.size hb9
        go_wp2
        go_ret
        exact ⟨rfl, hB⟩

  | true =>
  obtain ⟨⟨hp1, hp2⟩, hp3, hp4⟩ := right_place HRR.out
  obtain ⟨fl, fr⟩ := fits_all HFF.out
  obtain ⟨i1, i2, _, _⟩ := idxs_parts (right_parts HRR.out).2
  obtain ⟨q2, hq2⟩ : ∃ q : Nat, S.place = (q : Int) := ⟨S.place.toNat, by omega⟩
  obtain ⟨n2, hn2⟩ : ∃ q : Nat, S.parts = (q : Int) := ⟨S.parts.toNat, by omega⟩
  have hqm : q2 < m := by rw [← HL.out, fl]; omega
  obtain ⟨v, hv⟩ : ∃ v, us[q2]? = some v := ⟨_, List.getElem?_eq_getElem (by rw [HL.out]; exact hqm)⟩
  have hvr := List.all_eq_true.1 fr v (List.mem_of_getElem? hv)
  have hvo := HOU.out v (List.mem_of_getElem? hv)
  have hSP := fun W => rspread_any v hvr hvo.2.1 n2 (by omega) (by omega) W
  have HPc := Lib.hid (fun W (hb : Below w.heap.size w W) => (HPT.out W hb).mono (fun e w' h => (⟨part_ret_C (v := v) h.1 HRR.out HFF.out (by rw [hq2, Int.toNat_natCast]; exact hv), h.2⟩ : _ ∧ Below W.heap.size W w')))
  obtain ⟨PP, hPP⟩ : ∃ p, p = vsum v % S.parts := ⟨_, rfl⟩
  rw [← hPP] at HPc
  rw [← hn2, ← hPP] at hSP
  rw [hn2] at hSP
  have HP := HPc
  have HSP := Lib.hid hSP
  have HVK := Lib.hid hv
  have hRK := fun (q : Nat) (x : Idx) W (hb : Below w.heap.size w W) (hx : S.xs[q]? = some x) => rskey_any S q x a m c us W HL.out (HU.out.below hb) HOU.out (HS.out.below hb) HRR.out hx HFF.out
  have HRK := Lib.hid hRK
  obtain ⟨KF, hKF⟩ : ∃ KF : Idx → ByteArray, KF = fun x => ⟨(keyS S x us).toArray⟩ := ⟨_, rfl⟩
  have hks : keysS S us S.xs = S.xs.map KF := by rw [hKF]; rfl
  have HKs := Lib.hid (fun W (hb : Below w.heap.size w W) => (HKS.out W hb).mono (fun e w' h => (⟨by obtain ⟨a, c, h1, h2⟩ := keys_ret_C h.1 HRR.out HFF.out; rw [hks] at h2; exact ⟨a, c, h1, h2⟩, h.2⟩ : (∃ a c, e = .returned (.tuple #[.slice a S.xs.length c, .int .i64 0]) ∧ Texts w' a (S.xs.map KF)) ∧ Below W.heap.size W w')))
  have HRKF := Lib.hid (fun (q : Nat) (x : Idx) W (hb : Below w.heap.size w W) (hx : S.xs[q]? = some x) => show Calls Try.prog 24 #[.agg (schCells S), .int .i64 (q : Int), .slice a m c] W fun e w' => e = .returned (.string (KF x)) ∧ Below W.heap.size W w' from by rw [hKF]; exact hRK q x W hb hx)
  have hiL := HS.out.2.2.1
  rw [hiL] at HKs
  clear hp1 hp2 hp3 hp4 fl fr hv hvr hSP hRK hks HRK HKS HPT HPc hPP
  by_cases hin : 0 ≤ ix ∧ ix < (S.xs.length : Int)
  · obtain ⟨q, rfl⟩ : ∃ q : Nat, ix = (q : Int) := ⟨ix.toNat, by omega⟩
    obtain ⟨x, hx⟩ : ∃ x, S.xs[q]? = some x := ⟨_, List.getElem?_eq_getElem (by omega)⟩
    have HK := Lib.hid (fun W (hb : Below w.heap.size w W) => (HKY.out W hb).mono (fun e w' h => (⟨by rw [hKF]; exact key_ret_C h.1 HRR.out hx HFF.out, h.2⟩ : e = .returned (.tuple #[.string (KF x), .int .i64 0]) ∧ Below W.heap.size W w')))
    have HX := Lib.hid hx
    have d1 : decide ((0 : Int) ≤ (q : Int)) = true := decide_eq_true hin.1
    have d2 : decide ((q : Int) < (S.iN : Int)) = true := decide_eq_true (by rw [← hiN]; exact hin.2)
    have hqn : q < S.iN := by omega
    clear HKY hx hKF hin
    obtain ⟨name, ca, cn, cc, cs, ia, iN, ic, xs, limit, parts, place⟩ := S
    simp only [] at hq2 hn2 hiL hiN HRKF i1 i2
    simp only [schCells] at HG HR HF HT HK HKs HP HW1 HK1 HRKF e0 e1 e2 e3 e4 e5
    subst hq2 hn2
    simp only [] at d2 HX hqn
    clear hiN
    go_enter Try.func4, Try.ntmps4
    go_upto_region 1 with fail
    rw [HW1.out]
    clear HW1
    go_wp2_with fail
    refine (HG.out).mono ?_
    rintro e w2 ⟨rfl, hb2⟩
    have HB2 := Lib.hid (Below.thenB HB1.out HB1.out.size hb2)
    have HK2 := Lib.hid ((hb2.block w.heap.size hs1).trans HK1.out)
    have hs2 : w.heap.size < w2.heap.size := Nat.lt_of_lt_of_le hs1 hb2.size
    clear e0 e1 e2 e3 e4 e5
    obtain ⟨e0, e1, e2, e3, e4, e5⟩ := six_at HK2.out
    clear HK1 HB1
    go_wp2_with fail
    refine (HG1.out _ HB2.out).mono ?_
    rintro e w3 ⟨rfl, rfl⟩
    go_wp2_with fail
    refine (HR.out _ HB2.out).mono ?_
    rintro e w3 ⟨rfl, hb3⟩
    have HB3 := Lib.hid (Below.thenB HB2.out HB2.out.size hb3)
    have HK3 := Lib.hid ((hb3.block w.heap.size hs2).trans HK2.out)
    have hs3 : w.heap.size < w3.heap.size := Nat.lt_of_lt_of_le hs2 hb3.size
    clear e0 e1 e2 e3 e4 e5
    obtain ⟨e0, e1, e2, e3, e4, e5⟩ := six_at HK3.out
    clear HK2 HB2
    go_wp2_with fail
    refine (HF.out _ HB3.out).mono ?_
    rintro e w4 ⟨rfl, hb4⟩
    have HB4 := Lib.hid (Below.thenB HB3.out HB3.out.size hb4)
    have HK4 := Lib.hid ((hb4.block w.heap.size hs3).trans HK3.out)
    have hs4 : w.heap.size < w4.heap.size := Nat.lt_of_lt_of_le hs3 hb4.size
    clear e0 e1 e2 e3 e4 e5
    obtain ⟨e0, e1, e2, e3, e4, e5⟩ := six_at HK4.out
    clear HK3 HB3
    go_wp2_with fail
    refine (HK.out _ HB4.out).mono ?_
    rintro e w5 ⟨rfl, hb5⟩
    have HB5 := Lib.hid (Below.thenB HB4.out HB4.out.size hb5)
    have HK5 := Lib.hid ((hb5.block w.heap.size hs4).trans HK4.out)
    have hs5 : w.heap.size < w5.heap.size := Nat.lt_of_lt_of_le hs4 hb5.size
    clear e0 e1 e2 e3 e4 e5
    obtain ⟨e0, e1, e2, e3, e4, e5⟩ := six_at HK5.out
    clear HK4 HB4
    go_wp2_with fail
    refine (HKs.out _ HB5.out).mono ?_
    rintro e w6 ⟨⟨ka, kc, rfl, kt⟩, hb6⟩
    have HB6 := Lib.hid (Below.thenB HB5.out HB5.out.size hb6)
    have HK6 := Lib.hid ((hb6.block w.heap.size hs5).trans HK5.out)
    have hs6 : w.heap.size < w6.heap.size := Nat.lt_of_lt_of_le hs5 hb6.size
    clear e0 e1 e2 e3 e4 e5
    obtain ⟨e0, e1, e2, e3, e4, e5⟩ := six_at HK6.out
    have KT6 := Lib.hid kt
    clear HK5 HB5 hb6 kt
    go_wp2_with fail
    refine (HP.out _ HB6.out).mono ?_
    rintro e w7 ⟨rfl, hb7⟩
    have HB7 := Lib.hid (Below.thenB HB6.out HB6.out.size hb7)
    have HK7 := Lib.hid ((hb7.block w.heap.size hs6).trans HK6.out)
    have hs7 : w.heap.size < w7.heap.size := Nat.lt_of_lt_of_le hs6 hb7.size
    clear e0 e1 e2 e3 e4 e5
    obtain ⟨e0, e1, e2, e3, e4, e5⟩ := six_at HK7.out
    clear HK6 HB6
    have KT7 := Lib.hid (KT6.out.below hb7)
    go_wp2_with fail
    refine (HT.out _ HB7.out).mono ?_
    rintro e w9 ⟨rfl, hb9⟩
    have HB9 := Lib.hid (Below.thenB HB7.out HB7.out.size hb9)
    have HK9 := Lib.hid ((hb9.block w.heap.size hs7).trans HK7.out)
    have hs9 : w.heap.size < w9.heap.size := Nat.lt_of_lt_of_le hs7 hb9.size
    clear e0 e1 e2 e3 e4 e5
    obtain ⟨e0, e1, e2, e3, e4, e5⟩ := six_at HK9.out
    clear HK7 HB7
    have KT9 := Lib.hid (KT7.out.below hb9)
    go_wp2_with fail
    refine (HRKF.out q x _ HB9.out HX.out).mono ?_
    rintro e w8 ⟨rfl, hb8⟩
    have HB8 := Lib.hid (Below.thenB HB9.out HB9.out.size hb8)
    have HK8 := Lib.hid ((hb8.block w.heap.size hs9).trans HK9.out)
    have hs8 : w.heap.size < w8.heap.size := Nat.lt_of_lt_of_le hs9 hb8.size
    clear e0 e1 e2 e3 e4 e5
    obtain ⟨e0, e1, e2, e3, e4, e5⟩ := six_at HK8.out
    clear HK9 HB9
    have KT8 := Lib.hid (KT9.out.below hb8)
    go_wp2
    clear e0 e1 e2 e3 e4 e5
    go_loopw [17] (fun jv wr => ∃ j : Nat, j ≤ iN ∧ jv = .int .i64 (j : Int) ∧ Below w8.heap.size w8 wr) (fun jv _ => iN - (intOf jv).toNat)
    case atStart => exact ⟨0, Nat.zero_le _, rfl, Below.refl _ _⟩
    case round =>
      obtain ⟨j, hj, rfl, hbel⟩ := hrel
      have hsz : w.heap.size < wr.heap.size := Nat.lt_of_lt_of_le hs8 hbel.size
      have hB9 := Below.thenB HB8.out HB8.out.size hbel
      obtain ⟨e0, e1, e2, e3, e4, e5⟩ := six_at ((hbel.block w.heap.size hs8).trans HK8.out)
      by_cases hlt : j < iN
      · have hlt' : decide ((j : Int) < (iN : Int)) = true := decide_eq_true (by omega)
        obtain ⟨x, hxk⟩ : ∃ x, xs[j]? = some x := ⟨_, List.getElem?_eq_getElem (by rw [hiL]; exact hlt)⟩
        have hmk : (xs.map KF)[j]? = some (KF x) := by rw [List.getElem?_map, hxk]; rfl
        rcases KT8.out with hn | ⟨_, bt, ot, rfl, hbt, hcz⟩
        · rw [hn] at hmk; cases hmk
        have ct := (hbel.cell (p := ⟨bt, ot + j, none⟩) hbt).trans (hcz j _ hmk)
        have hbt' : bt < wr.heap.size := Nat.lt_of_lt_of_le hbt hbel.size
        have HKJ := Lib.hid (HRKF.out j x wr.drew hB9.drew hxk)
        obtain ⟨Z, hZ⟩ : ∃ Z, Z = KF x := ⟨_, rfl⟩
        rw [← hZ] at ct HKJ
        have HBD := Lib.hid hbel.drew
        have hj0 : (0 : Int) ≤ (j : Int) := by omega
        have hj1 : (j : Int) < (iN : Int) := by omega
        clear hbel hB9 hcz hmk hxk hZ
        go_wp2_with fail
        go_region_held3 (fun W => W.cell? ⟨bt, ot + j, none⟩ = some (.string Z) ∧ W.cell? ⟨w.heap.size, 0, none⟩ = some (.string name) ∧ W.cell? ⟨w.heap.size, 1, none⟩ = some (.slice ca cn cc) ∧ W.cell? ⟨w.heap.size, 2, none⟩ = some (.slice ia iN ic) ∧ W.cell? ⟨w.heap.size, 3, none⟩ = some (.int .i64 limit) ∧ W.cell? ⟨w.heap.size, 4, none⟩ = some (.int .i64 (n2 : Int)) ∧ W.cell? ⟨w.heap.size, 5, none⟩ = some (.int .i64 (q2 : Int)))
          (first | (with_reducible exact ⟨qt, q0, q1, q2, q3, q4, q5⟩) | go_keep)
          ((go_at_call 24; refine HKJ.out.mono ?_; rintro e w10 ⟨rfl, hb10⟩; obtain ⟨hc1, hf1⟩ := bcell hb10; have qt := (hc1 bt (ot + j) (by exact hbt')).trans (by exact ct); have q0 := (hc1 w.heap.size 0 (by exact hsz)).trans (by exact e0); have q1 := (hc1 w.heap.size 1 (by exact hsz)).trans (by exact e1); have q2 := (hc1 w.heap.size 2 (by exact hsz)).trans (by exact e2); have q3 := (hc1 w.heap.size 3 (by exact hsz)).trans (by exact e3); have q4 := (hc1 w.heap.size 4 (by exact hsz)).trans (by exact e4); have q5 := (hc1 w.heap.size 5 (by exact hsz)).trans (by exact e5); clear hc1 hf1))
        have hB10 := Below.thenB HBD.out HBD.out.size hb10
        go_wp2
        go_roundw
        case rel => exact ⟨j + 1, by omega, by go_num, hB10⟩
        case measure => simp [intOf]; omega
      · have hlt' : decide ((j : Int) < (iN : Int)) = false := decide_eq_false (by omega)
        obtain ⟨bv, ov, v', rfl, hbv, hvk, c0, c1, c2⟩ := Vals.at3 HU.out HL.out hqm hB9
        have hve : v' = v := Option.some.inj (hvk.symm.trans HVK.out)
        subst hve
        obtain ⟨vk, vn, vt⟩ := v'
        simp only [] at c0 c1 c2
        simp only [vagg] at HSP
        have hbv' : bv < wr.heap.size := Nat.lt_of_lt_of_le hbv hB9.size
        have HBD := Lib.hid hB9.drew
        have hq0' : (0 : Int) ≤ (q2 : Int) := by omega
        have hq1' : (q2 : Int) < (m : Int) := by omega
        clear hvk hbel hB9 KT8
        go_wp2_with fail
        go_region_held3 (fun W => W.cell? ⟨w.heap.size, 4, none⟩ = some (.int .i64 (n2 : Int)) ∧ W.cell? ⟨w.heap.size, 5, none⟩ = some (.int .i64 (q2 : Int)) ∧ W.cell? ⟨bv, ov + q2 * 3, none⟩ = some (.int .i64 vk) ∧ W.cell? ⟨bv, ov + q2 * 3 + 1, none⟩ = some (.int .i64 vn) ∧ W.cell? ⟨bv, ov + q2 * 3 + 2, none⟩ = some (.string vt))
          (first | (with_reducible exact ⟨l4, l5, l0, l1, l2⟩) | (with_reducible exact ⟨k4, k5, k0, k1, k2⟩) | go_keep)
          (first
            | (go_at_call 25; refine (HSP.out _).mono ?_; rintro e w10 ⟨rfl, hb10⟩; obtain ⟨hc1, hf1⟩ := bcell hb10; have k4 := (hc1 w.heap.size 4 (by exact hsz)).trans (by exact e4); have k5 := (hc1 w.heap.size 5 (by exact hsz)).trans (by exact e5); have k0 := (hc1 bv (ov + q2 * 3) (by exact hbv')).trans (by exact c0); have k1 := (hc1 bv (ov + q2 * 3 + 1) (by exact hbv')).trans (by exact c1); have k2 := (hc1 bv (ov + q2 * 3 + 2) (by exact hbv')).trans (by exact c2); have hB10 := Below.thenB HBD.out HBD.out.size hb10; have hs10 : w.heap.size < w10.heap.size := Nat.lt_of_lt_of_le hsz hb10.size; have hv10 : bv < w10.heap.size := Nat.lt_of_lt_of_le hbv' hb10.size; clear hc1 hf1)
            | (go_at_call 8; refine (HA.out _).mono ?_; rintro e w11 ⟨rfl, hb11⟩; obtain ⟨hc1, hf1⟩ := bcell hb11; have l4 := (hc1 w.heap.size 4 hs10).trans k4; have l5 := (hc1 w.heap.size 5 hs10).trans k5; have l0 := (hc1 bv (ov + q2 * 3) hv10).trans k0; have l1 := (hc1 bv (ov + q2 * 3 + 1) hv10).trans k1; have l2 := (hc1 bv (ov + q2 * 3 + 2) hv10).trans k2; have hB11 := Below.thenB hB10 hB10.size hb11; clear hc1 hf1))
        all_goals
          go_wp2
          go_ret
          exact ⟨rfl, hB11⟩

  · have HK := Lib.hid (fun W (hb : Below w.heap.size w W) => (HKY.out W hb).mono (fun e w' h => (⟨key_ret_A h.1 (.inr hin), h.2⟩ : _ ∧ Below W.heap.size W w')))
    clear HKY hKF
    by_cases h0 : 0 ≤ ix
    · have d1 : decide (0 ≤ ix) = true := decide_eq_true h0
      have d2 : decide (ix < (S.iN : Int)) = false := decide_eq_false (by rw [← hiN]; exact fun h => hin ⟨h0, h⟩)
      obtain ⟨name, ca, cn, cc, cs, ia, iN, ic, xs, limit, parts, place⟩ := S
      simp only [] at hq2 hn2 hiL hiN HRKF i1 i2
      simp only [schCells] at HG HR HF HT HK HKs HP HW1 HK1 HRKF e0 e1 e2 e3 e4 e5
      subst hq2 hn2
      simp only [] at d2
      clear hin hiN h0
      go_enter Try.func4, Try.ntmps4
      go_upto_region 1 with fail
      rw [HW1.out]
      clear HW1
      go_wp2_with fail
      refine (HG.out).mono ?_
      rintro e w2 ⟨rfl, hb2⟩
      have HB2 := Lib.hid (Below.thenB HB1.out HB1.out.size hb2)
      have HK2 := Lib.hid ((hb2.block w.heap.size hs1).trans HK1.out)
      have hs2 : w.heap.size < w2.heap.size := Nat.lt_of_lt_of_le hs1 hb2.size
      clear e0 e1 e2 e3 e4 e5
      obtain ⟨e0, e1, e2, e3, e4, e5⟩ := six_at HK2.out
      clear HK1 HB1
      go_wp2_with fail
      refine (HG1.out _ HB2.out).mono ?_
      rintro e w3 ⟨rfl, rfl⟩
      go_wp2_with fail
      refine (HR.out _ HB2.out).mono ?_
      rintro e w3 ⟨rfl, hb3⟩
      have HB3 := Lib.hid (Below.thenB HB2.out HB2.out.size hb3)
      have HK3 := Lib.hid ((hb3.block w.heap.size hs2).trans HK2.out)
      have hs3 : w.heap.size < w3.heap.size := Nat.lt_of_lt_of_le hs2 hb3.size
      clear e0 e1 e2 e3 e4 e5
      obtain ⟨e0, e1, e2, e3, e4, e5⟩ := six_at HK3.out
      clear HK2 HB2
      go_wp2_with fail
      refine (HF.out _ HB3.out).mono ?_
      rintro e w4 ⟨rfl, hb4⟩
      have HB4 := Lib.hid (Below.thenB HB3.out HB3.out.size hb4)
      have HK4 := Lib.hid ((hb4.block w.heap.size hs3).trans HK3.out)
      have hs4 : w.heap.size < w4.heap.size := Nat.lt_of_lt_of_le hs3 hb4.size
      clear e0 e1 e2 e3 e4 e5
      obtain ⟨e0, e1, e2, e3, e4, e5⟩ := six_at HK4.out
      clear HK3 HB3
      go_wp2_with fail
      refine (HK.out _ HB4.out).mono ?_
      rintro e w5 ⟨rfl, hb5⟩
      have HB5 := Lib.hid (Below.thenB HB4.out HB4.out.size hb5)
      have HK5 := Lib.hid ((hb5.block w.heap.size hs4).trans HK4.out)
      have hs5 : w.heap.size < w5.heap.size := Nat.lt_of_lt_of_le hs4 hb5.size
      clear e0 e1 e2 e3 e4 e5
      obtain ⟨e0, e1, e2, e3, e4, e5⟩ := six_at HK5.out
      clear HK4 HB4
      go_wp2_with fail
      refine (HKs.out _ HB5.out).mono ?_
      rintro e w6 ⟨⟨ka, kc, rfl, kt⟩, hb6⟩
      have HB6 := Lib.hid (Below.thenB HB5.out HB5.out.size hb6)
      have HK6 := Lib.hid ((hb6.block w.heap.size hs5).trans HK5.out)
      have hs6 : w.heap.size < w6.heap.size := Nat.lt_of_lt_of_le hs5 hb6.size
      clear e0 e1 e2 e3 e4 e5
      obtain ⟨e0, e1, e2, e3, e4, e5⟩ := six_at HK6.out
      have KT6 := Lib.hid kt
      clear HK5 HB5 hb6 kt
      go_wp2_with fail
      refine (HP.out _ HB6.out).mono ?_
      rintro e w7 ⟨rfl, hb7⟩
      have HB7 := Lib.hid (Below.thenB HB6.out HB6.out.size hb7)
      have HK7 := Lib.hid ((hb7.block w.heap.size hs6).trans HK6.out)
      have hs7 : w.heap.size < w7.heap.size := Nat.lt_of_lt_of_le hs6 hb7.size
      clear e0 e1 e2 e3 e4 e5
      obtain ⟨e0, e1, e2, e3, e4, e5⟩ := six_at HK7.out
      clear HK6 HB6
      have KT7 := Lib.hid (KT6.out.below hb7)
      go_wp2_with fail
      refine (HT.out _ HB7.out).mono ?_
      rintro e w8 ⟨rfl, hb8⟩
      have HB8 := Lib.hid (Below.thenB HB7.out HB7.out.size hb8)
      have HK8 := Lib.hid ((hb8.block w.heap.size hs7).trans HK7.out)
      have hs8 : w.heap.size < w8.heap.size := Nat.lt_of_lt_of_le hs7 hb8.size
      clear e0 e1 e2 e3 e4 e5
      obtain ⟨e0, e1, e2, e3, e4, e5⟩ := six_at HK8.out
      clear HK7 HB7
      have KT8 := Lib.hid (KT7.out.below hb8)
      go_wp2
      clear e0 e1 e2 e3 e4 e5
      go_loopw [17] (fun jv wr => ∃ j : Nat, j ≤ iN ∧ jv = .int .i64 (j : Int) ∧ Below w8.heap.size w8 wr) (fun jv _ => iN - (intOf jv).toNat)
      case atStart => exact ⟨0, Nat.zero_le _, rfl, Below.refl _ _⟩
      case round =>
        obtain ⟨j, hj, rfl, hbel⟩ := hrel
        have hsz : w.heap.size < wr.heap.size := Nat.lt_of_lt_of_le hs8 hbel.size
        have hB9 := Below.thenB HB8.out HB8.out.size hbel
        obtain ⟨e0, e1, e2, e3, e4, e5⟩ := six_at ((hbel.block w.heap.size hs8).trans HK8.out)
        by_cases hlt : j < iN
        · have hlt' : decide ((j : Int) < (iN : Int)) = true := decide_eq_true (by omega)
          obtain ⟨x, hxk⟩ : ∃ x, xs[j]? = some x := ⟨_, List.getElem?_eq_getElem (by rw [hiL]; exact hlt)⟩
          have hmk : (xs.map KF)[j]? = some (KF x) := by rw [List.getElem?_map, hxk]; rfl
          rcases KT8.out with hn | ⟨_, bt, ot, rfl, hbt, hcz⟩
          · rw [hn] at hmk; cases hmk
          have ct := (hbel.cell (p := ⟨bt, ot + j, none⟩) hbt).trans (hcz j _ hmk)
          have hbt' : bt < wr.heap.size := Nat.lt_of_lt_of_le hbt hbel.size
          have HKJ := Lib.hid (HRKF.out j x wr.drew hB9.drew hxk)
          obtain ⟨Z, hZ⟩ : ∃ Z, Z = KF x := ⟨_, rfl⟩
          rw [← hZ] at ct HKJ
          have HBD := Lib.hid hbel.drew
          have hj0 : (0 : Int) ≤ (j : Int) := by omega
          have hj1 : (j : Int) < (iN : Int) := by omega
          clear hbel hB9 hcz hmk hxk hZ
          go_wp2_with fail
          go_region_held3 (fun W => W.cell? ⟨bt, ot + j, none⟩ = some (.string Z) ∧ W.cell? ⟨w.heap.size, 0, none⟩ = some (.string name) ∧ W.cell? ⟨w.heap.size, 1, none⟩ = some (.slice ca cn cc) ∧ W.cell? ⟨w.heap.size, 2, none⟩ = some (.slice ia iN ic) ∧ W.cell? ⟨w.heap.size, 3, none⟩ = some (.int .i64 limit) ∧ W.cell? ⟨w.heap.size, 4, none⟩ = some (.int .i64 (n2 : Int)) ∧ W.cell? ⟨w.heap.size, 5, none⟩ = some (.int .i64 (q2 : Int)))
            (first | (with_reducible exact ⟨qt, q0, q1, q2, q3, q4, q5⟩) | go_keep)
            ((go_at_call 24; refine HKJ.out.mono ?_; rintro e w10 ⟨rfl, hb10⟩; obtain ⟨hc1, hf1⟩ := bcell hb10; have qt := (hc1 bt (ot + j) (by exact hbt')).trans (by exact ct); have q0 := (hc1 w.heap.size 0 (by exact hsz)).trans (by exact e0); have q1 := (hc1 w.heap.size 1 (by exact hsz)).trans (by exact e1); have q2 := (hc1 w.heap.size 2 (by exact hsz)).trans (by exact e2); have q3 := (hc1 w.heap.size 3 (by exact hsz)).trans (by exact e3); have q4 := (hc1 w.heap.size 4 (by exact hsz)).trans (by exact e4); have q5 := (hc1 w.heap.size 5 (by exact hsz)).trans (by exact e5); clear hc1 hf1))
          have hB10 := Below.thenB HBD.out HBD.out.size hb10
          go_wp2
          go_roundw
          case rel => exact ⟨j + 1, by omega, by go_num, hB10⟩
          case measure => simp [intOf]; omega
        · have hlt' : decide ((j : Int) < (iN : Int)) = false := decide_eq_false (by omega)
          obtain ⟨bv, ov, v', rfl, hbv, hvk, c0, c1, c2⟩ := Vals.at3 HU.out HL.out hqm hB9
          have hve : v' = v := Option.some.inj (hvk.symm.trans HVK.out)
          subst hve
          obtain ⟨vk, vn, vt⟩ := v'
          simp only [] at c0 c1 c2
          simp only [vagg] at HSP
          have hbv' : bv < wr.heap.size := Nat.lt_of_lt_of_le hbv hB9.size
          have HBD := Lib.hid hB9.drew
          have hq0' : (0 : Int) ≤ (q2 : Int) := by omega
          have hq1' : (q2 : Int) < (m : Int) := by omega
          clear hvk hbel hB9 KT8
          go_wp2_with fail
          go_region_held3 (fun W => W.cell? ⟨w.heap.size, 4, none⟩ = some (.int .i64 (n2 : Int)) ∧ W.cell? ⟨w.heap.size, 5, none⟩ = some (.int .i64 (q2 : Int)) ∧ W.cell? ⟨bv, ov + q2 * 3, none⟩ = some (.int .i64 vk) ∧ W.cell? ⟨bv, ov + q2 * 3 + 1, none⟩ = some (.int .i64 vn) ∧ W.cell? ⟨bv, ov + q2 * 3 + 2, none⟩ = some (.string vt))
            (first | (with_reducible exact ⟨l4, l5, l0, l1, l2⟩) | (with_reducible exact ⟨k4, k5, k0, k1, k2⟩) | go_keep)
            (first
              | (go_at_call 25; refine (HSP.out _).mono ?_; rintro e w10 ⟨rfl, hb10⟩; obtain ⟨hc1, hf1⟩ := bcell hb10; have k4 := (hc1 w.heap.size 4 (by exact hsz)).trans (by exact e4); have k5 := (hc1 w.heap.size 5 (by exact hsz)).trans (by exact e5); have k0 := (hc1 bv (ov + q2 * 3) (by exact hbv')).trans (by exact c0); have k1 := (hc1 bv (ov + q2 * 3 + 1) (by exact hbv')).trans (by exact c1); have k2 := (hc1 bv (ov + q2 * 3 + 2) (by exact hbv')).trans (by exact c2); have hB10 := Below.thenB HBD.out HBD.out.size hb10; have hs10 : w.heap.size < w10.heap.size := Nat.lt_of_lt_of_le hsz hb10.size; have hv10 : bv < w10.heap.size := Nat.lt_of_lt_of_le hbv' hb10.size; clear hc1 hf1)
              | (go_at_call 8; refine (HA.out _).mono ?_; rintro e w11 ⟨rfl, hb11⟩; obtain ⟨hc1, hf1⟩ := bcell hb11; have l4 := (hc1 w.heap.size 4 hs10).trans k4; have l5 := (hc1 w.heap.size 5 hs10).trans k5; have l0 := (hc1 bv (ov + q2 * 3) hv10).trans k0; have l1 := (hc1 bv (ov + q2 * 3 + 1) hv10).trans k1; have l2 := (hc1 bv (ov + q2 * 3 + 2) hv10).trans k2; have hB11 := Below.thenB hB10 hB10.size hb11; clear hc1 hf1))
          all_goals
            go_wp2
            go_ret
            exact ⟨rfl, hB11⟩

    · have d1 : decide (0 ≤ ix) = false := decide_eq_false h0
      obtain ⟨name, ca, cn, cc, cs, ia, iN, ic, xs, limit, parts, place⟩ := S
      simp only [] at hq2 hn2 hiL hiN HRKF i1 i2
      simp only [schCells] at HG HR HF HT HK HKs HP HW1 HK1 HRKF e0 e1 e2 e3 e4 e5
      subst hq2 hn2
      clear hin hiN h0
      go_enter Try.func4, Try.ntmps4
      go_upto_region 1 with fail
      rw [HW1.out]
      clear HW1
      go_wp2_with fail
      refine (HG.out).mono ?_
      rintro e w2 ⟨rfl, hb2⟩
      have HB2 := Lib.hid (Below.thenB HB1.out HB1.out.size hb2)
      have HK2 := Lib.hid ((hb2.block w.heap.size hs1).trans HK1.out)
      have hs2 : w.heap.size < w2.heap.size := Nat.lt_of_lt_of_le hs1 hb2.size
      clear e0 e1 e2 e3 e4 e5
      obtain ⟨e0, e1, e2, e3, e4, e5⟩ := six_at HK2.out
      clear HK1 HB1
      go_wp2_with fail
      refine (HG1.out _ HB2.out).mono ?_
      rintro e w3 ⟨rfl, rfl⟩
      go_wp2_with fail
      refine (HR.out _ HB2.out).mono ?_
      rintro e w3 ⟨rfl, hb3⟩
      have HB3 := Lib.hid (Below.thenB HB2.out HB2.out.size hb3)
      have HK3 := Lib.hid ((hb3.block w.heap.size hs2).trans HK2.out)
      have hs3 : w.heap.size < w3.heap.size := Nat.lt_of_lt_of_le hs2 hb3.size
      clear e0 e1 e2 e3 e4 e5
      obtain ⟨e0, e1, e2, e3, e4, e5⟩ := six_at HK3.out
      clear HK2 HB2
      go_wp2_with fail
      refine (HF.out _ HB3.out).mono ?_
      rintro e w4 ⟨rfl, hb4⟩
      have HB4 := Lib.hid (Below.thenB HB3.out HB3.out.size hb4)
      have HK4 := Lib.hid ((hb4.block w.heap.size hs3).trans HK3.out)
      have hs4 : w.heap.size < w4.heap.size := Nat.lt_of_lt_of_le hs3 hb4.size
      clear e0 e1 e2 e3 e4 e5
      obtain ⟨e0, e1, e2, e3, e4, e5⟩ := six_at HK4.out
      clear HK3 HB3
      go_wp2_with fail
      refine (HK.out _ HB4.out).mono ?_
      rintro e w5 ⟨rfl, hb5⟩
      have HB5 := Lib.hid (Below.thenB HB4.out HB4.out.size hb5)
      have HK5 := Lib.hid ((hb5.block w.heap.size hs4).trans HK4.out)
      have hs5 : w.heap.size < w5.heap.size := Nat.lt_of_lt_of_le hs4 hb5.size
      clear e0 e1 e2 e3 e4 e5
      obtain ⟨e0, e1, e2, e3, e4, e5⟩ := six_at HK5.out
      clear HK4 HB4
      go_wp2_with fail
      refine (HKs.out _ HB5.out).mono ?_
      rintro e w6 ⟨⟨ka, kc, rfl, kt⟩, hb6⟩
      have HB6 := Lib.hid (Below.thenB HB5.out HB5.out.size hb6)
      have HK6 := Lib.hid ((hb6.block w.heap.size hs5).trans HK5.out)
      have hs6 : w.heap.size < w6.heap.size := Nat.lt_of_lt_of_le hs5 hb6.size
      clear e0 e1 e2 e3 e4 e5
      obtain ⟨e0, e1, e2, e3, e4, e5⟩ := six_at HK6.out
      have KT6 := Lib.hid kt
      clear HK5 HB5 hb6 kt
      go_wp2_with fail
      refine (HP.out _ HB6.out).mono ?_
      rintro e w7 ⟨rfl, hb7⟩
      have HB7 := Lib.hid (Below.thenB HB6.out HB6.out.size hb7)
      have HK7 := Lib.hid ((hb7.block w.heap.size hs6).trans HK6.out)
      have hs7 : w.heap.size < w7.heap.size := Nat.lt_of_lt_of_le hs6 hb7.size
      clear e0 e1 e2 e3 e4 e5
      obtain ⟨e0, e1, e2, e3, e4, e5⟩ := six_at HK7.out
      clear HK6 HB6
      have KT7 := Lib.hid (KT6.out.below hb7)
      go_wp2_with fail
      refine (HT.out _ HB7.out).mono ?_
      rintro e w8 ⟨rfl, hb8⟩
      have HB8 := Lib.hid (Below.thenB HB7.out HB7.out.size hb8)
      have HK8 := Lib.hid ((hb8.block w.heap.size hs7).trans HK7.out)
      have hs8 : w.heap.size < w8.heap.size := Nat.lt_of_lt_of_le hs7 hb8.size
      clear e0 e1 e2 e3 e4 e5
      obtain ⟨e0, e1, e2, e3, e4, e5⟩ := six_at HK8.out
      clear HK7 HB7
      have KT8 := Lib.hid (KT7.out.below hb8)
      go_wp2
      clear e0 e1 e2 e3 e4 e5
      go_loopw [17] (fun jv wr => ∃ j : Nat, j ≤ iN ∧ jv = .int .i64 (j : Int) ∧ Below w8.heap.size w8 wr) (fun jv _ => iN - (intOf jv).toNat)
      case atStart => exact ⟨0, Nat.zero_le _, rfl, Below.refl _ _⟩
      case round =>
        obtain ⟨j, hj, rfl, hbel⟩ := hrel
        have hsz : w.heap.size < wr.heap.size := Nat.lt_of_lt_of_le hs8 hbel.size
        have hB9 := Below.thenB HB8.out HB8.out.size hbel
        obtain ⟨e0, e1, e2, e3, e4, e5⟩ := six_at ((hbel.block w.heap.size hs8).trans HK8.out)
        by_cases hlt : j < iN
        · have hlt' : decide ((j : Int) < (iN : Int)) = true := decide_eq_true (by omega)
          obtain ⟨x, hxk⟩ : ∃ x, xs[j]? = some x := ⟨_, List.getElem?_eq_getElem (by rw [hiL]; exact hlt)⟩
          have hmk : (xs.map KF)[j]? = some (KF x) := by rw [List.getElem?_map, hxk]; rfl
          rcases KT8.out with hn | ⟨_, bt, ot, rfl, hbt, hcz⟩
          · rw [hn] at hmk; cases hmk
          have ct := (hbel.cell (p := ⟨bt, ot + j, none⟩) hbt).trans (hcz j _ hmk)
          have hbt' : bt < wr.heap.size := Nat.lt_of_lt_of_le hbt hbel.size
          have HKJ := Lib.hid (HRKF.out j x wr.drew hB9.drew hxk)
          obtain ⟨Z, hZ⟩ : ∃ Z, Z = KF x := ⟨_, rfl⟩
          rw [← hZ] at ct HKJ
          have HBD := Lib.hid hbel.drew
          have hj0 : (0 : Int) ≤ (j : Int) := by omega
          have hj1 : (j : Int) < (iN : Int) := by omega
          clear hbel hB9 hcz hmk hxk hZ
          go_wp2_with fail
          go_region_held3 (fun W => W.cell? ⟨bt, ot + j, none⟩ = some (.string Z) ∧ W.cell? ⟨w.heap.size, 0, none⟩ = some (.string name) ∧ W.cell? ⟨w.heap.size, 1, none⟩ = some (.slice ca cn cc) ∧ W.cell? ⟨w.heap.size, 2, none⟩ = some (.slice ia iN ic) ∧ W.cell? ⟨w.heap.size, 3, none⟩ = some (.int .i64 limit) ∧ W.cell? ⟨w.heap.size, 4, none⟩ = some (.int .i64 (n2 : Int)) ∧ W.cell? ⟨w.heap.size, 5, none⟩ = some (.int .i64 (q2 : Int)))
            (first | (with_reducible exact ⟨qt, q0, q1, q2, q3, q4, q5⟩) | go_keep)
            ((go_at_call 24; refine HKJ.out.mono ?_; rintro e w10 ⟨rfl, hb10⟩; obtain ⟨hc1, hf1⟩ := bcell hb10; have qt := (hc1 bt (ot + j) (by exact hbt')).trans (by exact ct); have q0 := (hc1 w.heap.size 0 (by exact hsz)).trans (by exact e0); have q1 := (hc1 w.heap.size 1 (by exact hsz)).trans (by exact e1); have q2 := (hc1 w.heap.size 2 (by exact hsz)).trans (by exact e2); have q3 := (hc1 w.heap.size 3 (by exact hsz)).trans (by exact e3); have q4 := (hc1 w.heap.size 4 (by exact hsz)).trans (by exact e4); have q5 := (hc1 w.heap.size 5 (by exact hsz)).trans (by exact e5); clear hc1 hf1))
          have hB10 := Below.thenB HBD.out HBD.out.size hb10
          go_wp2
          go_roundw
          case rel => exact ⟨j + 1, by omega, by go_num, hB10⟩
          case measure => simp [intOf]; omega
        · have hlt' : decide ((j : Int) < (iN : Int)) = false := decide_eq_false (by omega)
          obtain ⟨bv, ov, v', rfl, hbv, hvk, c0, c1, c2⟩ := Vals.at3 HU.out HL.out hqm hB9
          have hve : v' = v := Option.some.inj (hvk.symm.trans HVK.out)
          subst hve
          obtain ⟨vk, vn, vt⟩ := v'
          simp only [] at c0 c1 c2
          simp only [vagg] at HSP
          have hbv' : bv < wr.heap.size := Nat.lt_of_lt_of_le hbv hB9.size
          have HBD := Lib.hid hB9.drew
          have hq0' : (0 : Int) ≤ (q2 : Int) := by omega
          have hq1' : (q2 : Int) < (m : Int) := by omega
          clear hvk hbel hB9 KT8
          go_wp2_with fail
          go_region_held3 (fun W => W.cell? ⟨w.heap.size, 4, none⟩ = some (.int .i64 (n2 : Int)) ∧ W.cell? ⟨w.heap.size, 5, none⟩ = some (.int .i64 (q2 : Int)) ∧ W.cell? ⟨bv, ov + q2 * 3, none⟩ = some (.int .i64 vk) ∧ W.cell? ⟨bv, ov + q2 * 3 + 1, none⟩ = some (.int .i64 vn) ∧ W.cell? ⟨bv, ov + q2 * 3 + 2, none⟩ = some (.string vt))
            (first | (with_reducible exact ⟨l4, l5, l0, l1, l2⟩) | (with_reducible exact ⟨k4, k5, k0, k1, k2⟩) | go_keep)
            (first
              | (go_at_call 25; refine (HSP.out _).mono ?_; rintro e w10 ⟨rfl, hb10⟩; obtain ⟨hc1, hf1⟩ := bcell hb10; have k4 := (hc1 w.heap.size 4 (by exact hsz)).trans (by exact e4); have k5 := (hc1 w.heap.size 5 (by exact hsz)).trans (by exact e5); have k0 := (hc1 bv (ov + q2 * 3) (by exact hbv')).trans (by exact c0); have k1 := (hc1 bv (ov + q2 * 3 + 1) (by exact hbv')).trans (by exact c1); have k2 := (hc1 bv (ov + q2 * 3 + 2) (by exact hbv')).trans (by exact c2); have hB10 := Below.thenB HBD.out HBD.out.size hb10; have hs10 : w.heap.size < w10.heap.size := Nat.lt_of_lt_of_le hsz hb10.size; have hv10 : bv < w10.heap.size := Nat.lt_of_lt_of_le hbv' hb10.size; clear hc1 hf1)
              | (go_at_call 8; refine (HA.out _).mono ?_; rintro e w11 ⟨rfl, hb11⟩; obtain ⟨hc1, hf1⟩ := bcell hb11; have l4 := (hc1 w.heap.size 4 hs10).trans k4; have l5 := (hc1 w.heap.size 5 hs10).trans k5; have l0 := (hc1 bv (ov + q2 * 3) hv10).trans k0; have l1 := (hc1 bv (ov + q2 * 3 + 1) hv10).trans k1; have l2 := (hc1 bv (ov + q2 * 3 + 2) hv10).trans k2; have hB11 := Below.thenB hB10 hB10.size hb11; clear hc1 hf1))
          all_goals
            go_wp2
            go_ret
            exact ⟨rfl, hB11⟩

end Go.Proofs.Ytapnkbamilkpoaa
