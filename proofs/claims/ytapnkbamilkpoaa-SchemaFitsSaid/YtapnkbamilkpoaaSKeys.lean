/- Contract of schema's Keys. -/
import Derived.Test.YtapnkbamilkpoaaSKey2
import Derived.Test.YtapnkbamilkpoaaSch78
import Derived.Test.YtapnkbamilkpoaaTexts
namespace Go.Proofs.Ytapnkbamilkpoaa
open Go.RowKit
def scells (ss : List ByteArray) : List Value := ss.map Value.string
theorem own_strs {w : World} {B : Nat} {t : TypeId} {a : Option Addr} {n c : Nat} {ss : List ByteArray} (h : w.ownsRow B t 1 (.slice a n c) n (scells ss)) : Texts w a ss := by
  by_cases hn : ss = []
  · exact .inl hn
  · rcases h.2 with ⟨hv, h0⟩ | ⟨g, cap, cur, hv, _, hg, _⟩
    · have := h.1
      rw [h0] at this
      simp [scells] at this
      exact absurd this hn
    · injection hv with ha hn' hc
      subst ha
      refine .inr ⟨hn, g, 0, rfl, (Array.getElem?_eq_some_iff.1 hg).1, fun i s hi => ?_⟩
      have hc := h.cells (g := g) rfl i (.string s) (by simp [scells, hi])
      have hadd : (⟨g, 0, none⟩ : Addr).add i = ⟨g, i, none⟩ := by unfold Addr.add; split <;> simp_all
      rw [hadd] at hc
      simpa using hc
theorem info1_str : (Try.prog.info? 9).map (fun i => (i.zero, i.size, i.bytes)) = some (some (.string ⟨#[]⟩), 1, 16) := by kernel_rfl
theorem own1_below' {w w' : World} {B : Nat} {t : TypeId} {v : Value} {n : Nat} {xs : List Value} (h : w.ownsRow B t 1 v n xs) (hb : Below w.heap.size w w') : w'.ownsRow B t 1 v n xs :=
  h.kept (row := none) ⟨hb.os, hb.tape, hb.output, hb.size, fun k hk _ => hb.block k hk⟩ (by cases hv : v.ownBlock <;> simp)
theorem skey_any (S : Sch) (a : Option Addr) (m c : Nat) (vs : List Val) (w : World) (hl : vs.length = m) (hm : m ≤ 281474976710656) (hv : Vals w a vs) (hok : ValsOk vs) (hS : SchAt w S) (hright : srightB S = true) (x : Idx) (hx : Ints .i64 w x.a x.ps ∧ x.ps.length = x.n ∧ x.n ≤ 2000) :
    Calls Try.prog 46 #[.agg (schCells S), .agg #[.slice x.a x.n x.c, .bool x.u], .slice a m c] w fun e w' => e = .returned (.string ⟨(keyS S x vs).toArray⟩) ∧ Below w.heap.size w w' := by
  have hI := hS.2
  obtain ⟨k1, k2, k3, k4⟩ := idxs_parts (right_parts hright).2
  cases hxs : S.xs with
  | nil => rw [hxs] at k1; simp at k1
  | cons z rest =>
    have hz : S.xs[0]? = some z := by rw [hxs]; rfl
    have hzu : z.u = true := by rw [hxs] at k3; exact k3
    have hzn : z.n ≤ 2000 := by
      have h8 := k4 z (List.mem_of_getElem? hz)
      obtain ⟨hi1, hi2, _⟩ := hI
      rcases hi1 with h0 | ⟨_, b, o, _, _, hall⟩
      · rw [h0] at hxs; cases hxs
      · have := (hall 0 z hz).2.2.1; omega
    unfold keyS
    rw [hxs]
    cases hu : x.u with
    | true =>
      rw [if_pos rfl, List.append_nil]
      have := key1_any S x a m c vs w hu hl hm hv hok hx
      rw [hu] at this
      exact this
    | false =>
      rw [if_neg (by decide)]
      have := key2_any S x z a m c vs w hu hl hm hv hok hx hS hz hzu hzn
      rw [hu] at this
      exact this
def keysS (S : Sch) (vs : List Val) (xs : List Idx) : List ByteArray := xs.map fun x => ⟨(keyS S x vs).toArray⟩
/-- What Keys answers. -/
def KeysRet (S : Sch) (vs : List Val) (e : Ending) (w' : World) : Prop :=
  srightB S = false ∧ e = .returned (.tuple #[.slice none 0 0, .int .i64 1]) ∨
  (srightB S = true ∧ fitsB S.cs vs = false) ∧ e = .returned (.tuple #[.slice none 0 0, .int .i64 13]) ∨
  (srightB S = true ∧ fitsB S.cs vs = true) ∧ ∃ a c, e = .returned (.tuple #[.slice a S.xs.length c, .int .i64 0]) ∧ Texts w' a (keysS S vs S.xs)
set_option maxRecDepth 100000 in
set_option maxHeartbeats 4000000 in
theorem Keys_any (S : Sch) (a : Option Addr) (m c : Nat) (vs : List Val) (w : World) (hl : vs.length = m) (hm : m ≤ 281474976710656) (hv : Vals w a vs) (hok : ValsOk vs) (hS : SchAt w S) :
    Calls Try.prog 21 #[.agg (schCells S), .slice a m c] w fun e w' => KeysRet S vs e w' ∧ Below w.heap.size w w' := by
  obtain ⟨i0, hi, iz0, iz1, iz2⟩ := info_parts info1_str
  have hC := fun W (hb : Below w.heap.size w W) => check_any S a m c vs W (hS.below hb) hl (hv.below hb)
  have hKS := fun (hright : srightB S = true) (x : Idx) W (hb : Below w.heap.size w W) (hx : Ints .i64 W x.a x.ps ∧ x.ps.length = x.n ∧ x.n ≤ 2000) => skey_any S a m c vs W hl hm (hv.below hb) hok (hS.below hb) hright x hx
  have hLX := fun hright : srightB S = true => idxs_parts (right_parts hright).2
  obtain ⟨r, hr⟩ : ∃ r, r = srightB S := ⟨_, rfl⟩
  obtain ⟨f, hf⟩ : ∃ f, f = fitsB S.cs vs := ⟨_, rfl⟩
  rw [← hr, ← hf] at hC
  rw [← hr] at hKS hLX
  obtain ⟨KF, hKF⟩ : ∃ KF : Idx → ByteArray, KF = fun x => ⟨(keyS S x vs).toArray⟩ := ⟨_, rfl⟩
  have hks : keysS S vs = fun xs => xs.map KF := by rw [hKF]; rfl
  have hI := hS.2
  unfold KeysRet
  rw [← hr, ← hf, hks]
  have hKS' := fun (hright : r = true) (x : Idx) W (hb : Below w.heap.size w W) (hx : Ints .i64 W x.a x.ps ∧ x.ps.length = x.n ∧ x.n ≤ 2000) => show Calls Try.prog 46 #[.agg (schCells S), .agg #[.slice x.a x.n x.c, .bool x.u], .slice a m c] W fun e w' => e = .returned (.string (KF x)) ∧ Below W.heap.size W w' from by
    rw [hKF]; exact hKS hright x W hb hx
  clear hKS hr hf hks hKF
  obtain ⟨name, ca, cn, cc, cs, ia, iN, ic, xs, limit, parts, place⟩ := S
  simp only [] at hI hLX
  obtain ⟨hI1, hI2, hI3, hI4⟩ := hI
  simp only [schCells] at hC hKS' ⊢
  obtain ⟨W1, hW1⟩ : ∃ W1, W1 = w.alloc (.cells #[.string name, .slice ca cn cc, .slice ia iN ic, .int .i64 limit, .int .i64 parts, .int .i64 place] 25) := ⟨_, rfl⟩
  have hA1 : Below w.heap.size w W1 := by rw [hW1]; exact (Below.refl _ _).alloc (Nat.le_refl _) _
  have hk1 : W1.heap[w.heap.size]? = some (.cells #[.string name, .slice ca cn cc, .slice ia iN ic, .int .i64 limit, .int .i64 parts, .int .i64 place] 25 (0, 0)) := by rw [hW1]; exact Array.getElem?_push_size
  have hs1 : w.heap.size < W1.heap.size := by rw [hW1]; simp
  have HC := Lib.hid (hC W1 hA1)
  have HKS := Lib.hid hKS'
  have HK1 := Lib.hid hk1
  have HA1 := Lib.hid hA1
  have HW1 := Lib.hid hW1.symm
  have HI := Lib.hid hI1
  have HIL := Lib.hid hI2
  obtain ⟨e0, e1, e2, e3, e4, e5⟩ := six_at hk1
  clear hC hKS' hk1 hA1 hW1 hI1 hI2 hv hok hS hl
  cases r with
  | false =>
    clear hLX HKS
    have HC' := HC.out
    simp only [Bool.false_eq_true, ↓reduceIte] at HC'
    replace HC := Lib.hid HC'
    clear HC'
    go_enter Try.func21, Try.ntmps21
    go_upto_region 1 with fail
    rw [HW1.out]
    go_wp2_with fail
    refine HC.out.mono ?_
    rintro e w2 ⟨rfl, hb2⟩
    have hB := Below.thenB HA1.out HA1.out.size hb2
    go_wp2
    go_ret2
    exact ⟨.inl ⟨by simp, rfl⟩, hB⟩
  | true =>
  cases f with
  | false =>
    clear hLX HKS
    have HC' := HC.out
    simp only [Bool.false_eq_true, ↓reduceIte] at HC'
    replace HC := Lib.hid HC'
    clear HC'
    go_enter Try.func21, Try.ntmps21
    go_upto_region 1 with fail
    rw [HW1.out]
    go_wp2_with fail
    refine HC.out.mono ?_
    rintro e w2 ⟨rfl, hb2⟩
    have hB := Below.thenB HA1.out HA1.out.size hb2
    go_wp2
    go_ret2
    exact ⟨.inr (.inl ⟨⟨by simp, by simp⟩, rfl⟩), hB⟩
  | true =>
  obtain ⟨j1, j2, _, j4⟩ := hLX rfl
  have J4 := Lib.hid j4
  have hiN : iN ≤ 4 := by rw [← HIL.out]; exact j2
  have HC' := HC.out
  simp only [↓reduceIte] at HC'
  replace HC := Lib.hid HC'
  clear HC' hLX j1 j2 j4
  go_enter Try.func21, Try.ntmps21
  go_upto_region 1 with fail
  rw [HW1.out]
  go_wp2_with fail
  refine HC.out.mono ?_
  rintro e w2 ⟨rfl, hb2⟩
  have HK2 := Lib.hid ((hb2.block w.heap.size hs1).trans HK1.out)
  have HB2 := Lib.hid (Below.thenB HA1.out HA1.out.size hb2)
  have hs2 : w.heap.size < w2.heap.size := Nat.lt_of_lt_of_le hs1 hb2.size
  obtain ⟨g0, g1, g2, g3, g4, g5⟩ := six_at HK2.out
  clear hb2 e0 e1 e2 e3 e4 e5 HC HW1 HK1 HA1
  go_wp2
  go_loopw [7, 19] (fun sl iv wr => ∃ (k : Nat) (oa : Option Addr) (oc : Nat), k ≤ iN ∧ iv = .int .i64 (k : Int) ∧ sl = .slice oa k oc ∧ wr.ownsRow (w.heap.size + 1) 9 1 (.slice oa k oc) k (scells ((xs.map KF).take k)) ∧ w.heap.size < wr.heap.size ∧ wr.heap[w.heap.size]? = some (.cells #[.string name, .slice ca cn cc, .slice ia iN ic, .int .i64 limit, .int .i64 parts, .int .i64 place] 25 (0, 0)) ∧ Below w.heap.size w wr) (fun _ iv _ => iN - (intOf iv).toNat)
  case atStart => exact ⟨0, none, 0, Nat.zero_le _, rfl, rfl, by rw [List.take_zero]; exact World.ownsRow_nil _ _ _ _, hs2, HK2.out, HB2.out⟩
  case round =>
    obtain ⟨k, oa, oc, hk, rfl, rfl, hown, hsz, hkb, hbel⟩ := hrel
    obtain ⟨k0, k1, k2, k3, k4, k5⟩ := six_at hkb
    clear HK2 HB2 g0 g1 g2 g3 g4 g5
    by_cases hlt : k < iN
    · have hlt' : decide ((k : Int) < (iN : Int)) = true := decide_eq_true (by omega)
      obtain ⟨b, o, x, rfl, hb, hxk, c0, c1, z2, z3, z4, z5⟩ := Idxs.at HI.out HIL.out hlt hbel
      have h8 := J4.out x (List.mem_of_getElem? hxk)
      obtain ⟨W2, hW2⟩ : ∃ W2, W2 = wr.alloc (.cells #[.slice x.a x.n x.c, .bool x.u] 34) := ⟨_, rfl⟩
      have hA2 : Below wr.heap.size wr W2 := by rw [hW2]; exact (Below.refl _ _).alloc (Nat.le_refl _) _
      have HB3 := Lib.hid (Below.thenB hbel (Nat.le_of_lt hsz) hA2)
      have hkey := HKS.out (by first | rfl | trivial) x W2 HB3.out ⟨z2.below hA2, z3, by omega⟩
      have hO2 := own1_below' hown hA2
      have hkb2 := (hA2.block w.heap.size hsz).trans hkb
      obtain ⟨K, hK⟩ : ∃ K, K = KF x := ⟨_, rfl⟩
      rw [← hK] at hkey
      have hrc : scells ((xs.map KF).take (k + 1)) = scells ((xs.map KF).take k) ++ [.string K] := by rw [List.take_add_one, List.getElem?_map, hxk, hK]; simp [scells]
      have HRC := Lib.hid hrc
      have HK2 := Lib.hid hkey
      have HO2 := Lib.hid hO2
      have HKB2 := Lib.hid hkb2
      have hs3 : w.heap.size < W2.heap.size := Nat.lt_of_lt_of_le hsz hA2.size
      obtain ⟨xa, xn, xc, xp, xu⟩ := x
      have hkI : W2.heap[wr.heap.size]? = some (.cells #[.slice xa xn xc, .bool xu] 34 (0, 0)) := by rw [hW2]; exact Array.getElem?_push_size
      obtain ⟨⟨j0, j1⟩, _⟩ := two_at2 hkI
      obtain ⟨m0, m1, m2, m3, m4, m5⟩ := six_at HKB2.out
      have HW2 := Lib.hid hW2.symm
      simp only [] at c0 c1 HK2
      have hk0' : (0 : Int) ≤ (k : Int) := by omega
      have hk1' : (k : Int) < (iN : Int) := by omega
      clear hown hbel hkb hA2 hW2 hkey hO2 hkb2 hrc hK hxk z2 hkI
      go_upto_region 8 with fail
      rw [HW2.out]
      go_wp2_with fail
      refine HK2.out.mono ?_
      rintro e w4 ⟨rfl, hb4⟩
      have HB4 := Lib.hid (Below.thenB HB3.out (Nat.le_of_lt hs3) hb4)
      have HO4 := Lib.hid (own1_below' HO2.out hb4)
      have HKB4 := Lib.hid ((hb4.block w.heap.size hs3).trans HKB2.out)
      have hs4 : w.heap.size < w4.heap.size := Nat.lt_of_lt_of_le hs3 hb4.size
      have hlt4 := HO4.out.lt
      clear hb4 HK2 HW2 HB3 HO2 HKB2 c0 c1 k0 k1 k2 k3 k4 k5 j0 j1 m0 m1 m2 m3 m4 m5
      go_wp2_with (at_builtin; refine wpList_append_lies _ rfl (.tmp 23) (.tmp 28) 46 rfl (w.heap.size + 1) 9 i0 (.string ⟨#[]⟩) 1 16 Try.underlying46 hi iz0 iz1 iz2 rfl (by decide) _ k (scells ((xs.map KF).take k)) rfl (HO4.out.alloc _) ⟨w4.heap.size, 0, none⟩ 1 1 [.string K] rfl rfl (one_cell_new _ _ _) ?c1 (by decide) ?c2 ?c3 ?c4 (w4.heap.size + 1) ?c5 ?_)
      case c1 => simp [Value.oneCell']
      case c2 => unfold maxLen; omega
      case c3 => omega
      case c4 => first | omega | (simp; omega)
      try (case c5 => simp)
      intro g cap w5 hown5 hgrow hat hgl
      have hA4 : Below w4.heap.size w4 (w4.alloc (.cells #[.string K] 9)) := (Below.refl _ _).alloc (Nat.le_refl _) _
      have hB5 : Below w.heap.size w w5 := by
        have hc0 : Chg (fun _ => False) w (w4.alloc (.cells #[.string K] 9)) := (Chg.ofBelow HB4.out).thenB hA4
        have hc5 := hc0.grown hgrow (fun k hk => .inl (by have := (hlt4 k hk).1; omega))
        exact hc5.below (Nat.le_refl _) (fun _ _ h => h.elim)
      rw [← HRC.out] at hown5
      have HO5 := Lib.hid hown5
      have HB5 := Lib.hid hB5
      have HKB5 := Lib.hid ((hgrow.block w.heap.size (by simp; omega) (fun e => by have h9 := (hlt4 _ e.symm).1; omega)).trans ((hA4.block w.heap.size hs4).trans HKB4.out))
      have hs5 : w.heap.size < w5.heap.size := by have := hgrow.size; simp at this; omega
      clear hown5 hgrow hat hgl hB5 hlt4 HO4 HB4 HKB4 hA4
      go_wp2
      go_roundw
      case rel => exact ⟨k + 1, some ⟨g, 0, none⟩, cap, by omega, by go_num, rfl, HO5.out, hs5, HKB5.out, HB5.out⟩
      case measure => simp [intOf]; omega
    · have hlt' : decide ((k : Int) < (iN : Int)) = false := decide_eq_false (by omega)
      have hkm : k = iN := by omega
      have hte : (xs.map KF).take k = xs.map KF := List.take_of_length_le (by rw [List.length_map, HIL.out]; omega)
      rw [hte] at hown
      have HT := Lib.hid (own_strs hown)
      have HBL := Lib.hid hbel
      have HE := Lib.hid (show xs.length = k by rw [HIL.out, hkm])
      clear hown hbel hte
      go_wp2
      go_ret2
      exact ⟨.inr (.inr ⟨⟨by simp, by simp⟩, oa, oc, by rw [HE.out]; rfl, HT.out⟩), HBL.out⟩
end Go.Proofs.Ytapnkbamilkpoaa
