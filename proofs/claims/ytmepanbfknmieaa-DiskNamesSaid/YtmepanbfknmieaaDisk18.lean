/- Contract of disk's Names. -/
import Derived.Test.YtmepanbfknmieaaDisk17
import Derived.Test.YtmepanbfknmieaaDisk9
import Derived.Sort.OwnSorted
import Derived.Sort.KeysCollected
namespace Go.Proofs.Ytmepanbfknmieaa
open Go.RowKit Go.Maps Go.ChangeMaps Go.WideMaps Go.Sort
/-- Is a name among those that are asked for? -/
def wantB (fr : List ByteArray) (nm : List UInt8) : Bool := fr.isEmpty || beginsB nm fr
/-- Names that are handed back: a row of the call's own. -/
def NamesRet (w w' : World) (ts : List (List UInt8)) (e : Ending) : Prop := ∃ a c, e = .returned (.slice a ts.length c) ∧ w'.ownsRow w.heap.size 9 1 (.slice a ts.length c) ts.length (ts.map encStr)
theorem info_txt : (Try.prog.info? 9).map (fun i => (i.zero, i.size, i.bytes)) = some (some (.string ⟨#[]⟩), 1, 16) := by kernel_rfl
theorem bb_le : ∀ {a b : List UInt8}, bytesBefore a b = true → a ≤ b
  | [], _, _ => by simp
  | _ :: _, [], h => by simp [bytesBefore] at h
  | x :: r, y :: s, h => by
    simp only [bytesBefore, Bool.or_eq_true, Bool.and_eq_true, decide_eq_true_eq, beq_iff_eq] at h
    rcases h with h | ⟨rfl, h⟩
    · exact List.le_of_lt (List.Lex.rel h)
    · have := bb_le h
      exact List.cons_le_cons_iff.2 (.inr ⟨rfl, this⟩)
theorem sort_rising {β : Type} {L : List (List UInt8 × β)} (hr : Rising L) {ks : List (List UInt8)} (hp : ks.Perm (L.map (·.1))) (p : List UInt8 → Bool) : (ks.filter p).mergeSort leB = (L.map (·.1)).filter p := by
  rw [mergeSort_of_perm (hp.filter p)]
  refine List.mergeSort_of_pairwise ?_
  refine List.Pairwise.filter _ ?_
  rw [List.pairwise_map]
  exact hr.imp fun h => decide_eq_true (bb_le h)
theorem strKeys_toD (fs : List FEnt) : strKeys (toD fs) = fs.map (·.1) := by
  show (fs.map entD).map _ = _
  rw [List.map_map]
  rfl
theorem own_names {w : World} {base : Nat} {a : Option Addr} {c : Nat} {ts : List (List UInt8)} (h : w.ownsRow base 9 1 (.slice a ts.length c) ts.length (ts.map encStr)) : Texts w a (ts.map fun l => ⟨l.toArray⟩) ∧ ∀ x, a = some x → base ≤ x.block := by
  rcases h.2 with ⟨hv, h0⟩ | ⟨g, cap, cur, hv, hb, hg, _⟩
  · injection hv with e1 e2 e3
    have : ts = [] := List.eq_nil_of_length_eq_zero h0
    subst this
    exact ⟨.inl rfl, fun x hx => by rw [e1] at hx; cases hx⟩
  · injection hv with e1 e2 e3
    subst e1
    refine ⟨?_, fun x hx => by injection hx with hx; subst hx; exact hb⟩
    cases ts with
    | nil => exact .inl rfl
    | cons t r =>
      refine .inr ⟨by simp, g, 0, rfl, (Array.getElem?_eq_some_iff.1 hg).1, fun i s hi => ?_⟩
      have hc := h.cells (g := g) rfl i (.string s) (by
        rw [List.getElem?_map] at hi ⊢
        rw [Option.map_eq_some_iff] at hi ⊢
        obtain ⟨l, hl, rfl⟩ := hi
        exact ⟨l, hl, rfl⟩)
      rw [← hc]
      congr 1
      unfold Addr.add
      simp

set_option maxRecDepth 100000 in
set_option maxHeartbeats 4000000 in
theorem names_all (b mm : Nat) (D : Dk) (fs : List FEnt) (a : Option Addr) (m c : Nat) (fr : List ByteArray) (w : World) (h : DAt w b D) (hm : D.mb = some mm) (hown : w.ownsMap Try.prog 9 fileR mm fs.length (toD fs)) (hr : Rising fs) (hfl : fs.length ≤ 100) (hl : fr.length = m) (hm1 : m = 0) (hmm : m ≤ 1048576) (hz : Texts w a fr) :
    Calls Try.prog 21 #[.pointer (some ⟨b, 0, none⟩), .slice a m c] w fun e w' => NamesRet w w' ((fs.map (·.1)).filter (wantB fr)) e ∧ Below w.heap.size w w' := by
  obtain ⟨i0, hi, hz0, hz1, hz2⟩ := info_parts info_txt
  obtain ⟨on, uses, armed, left, room, mb⟩ := D
  simp only at hm
  subst hm
  obtain ⟨⟨c0, c1, c2, c3, c4, c5⟩, _⟩ := six6_cells h
  simp only [] at c0 c1 c2 c3 c4 c5
  have hbl := hown.lt
  have HZ := Lib.hid hz
  have HL := Lib.hid hl
  have HR := Lib.hid hr
  have HOWN := Lib.hid hown
  subst hm1
  clear h hz hl hr
  go_enter Try.func21, Try.ntmps21
  go_wp2_with (first
    | (at_range; refine wpList_range_own _ rfl _ 65 rfl 9 72 str_law Try.underlying65 _ mm _ _ rfl hown ?_; intro w0 hrg0 hg0 hs0)
    | fail)
  go_frame
  have hB0 : Below w.heap.size w w0 := (Below.refl _ _).grown hg0 (Nat.le_refl _) (fun k hk => by cases hk)
  have HB0 := Lib.hid hB0
  clear hown hg0 hB0
  go_loopw [5] (fun ov wr => ∃ (left : Lit → Bool) (cnt n : Nat) (ks : List (List UInt8)) (va : Option Addr) (vc : Nat), ov = .slice va n vc ∧ n ≤ ks.length ∧ Hid (ks.length + cnt ≤ fs.length) ∧ wr.ranges Try.prog 9 fileR mm w.heap.size fs.length (toD fs) left cnt ∧ Hid (wr.ownsRow w.heap.size 9 1 (.slice va n vc) n ((ks.filter (wantB fr)).map encStr)) ∧ Hid (Collected (toD fs) left ks) ∧ Below w.heap.size w wr) (fun _ wr => wr.rangeLeft mm w.heap.size)
  case atStart => exact ⟨_, _, 0, [], none, 0, rfl, Nat.le_refl _, Lib.hid (by rw [toD_size]; simp), hrg0, Lib.hid (World.ownsRow_nil _ _ _ _), Lib.hid (Collected.start _), HB0.out⟩
  case round =>
    obtain ⟨left, cnt, n, ks, va, vc, rfl, hnk, hcs, hrg, hrow, hC, hbel⟩ := hrel
    have HBL := Lib.hid hbel
    have hszr := hbel.size
    clear hbel
    go_wp2_with (first
      | (at_next; refine wpList_next_ranges _ rfl _ rfl 9 str_law fileR encStr fileV (fun key kl hk => by obtain ⟨x, hx, _⟩ := Maps.keyOf_str Try.underlying9 hk; exact ⟨x, hx⟩) fileR_shape mm w.heap.size fs.length _ _ _ rfl hrg ?_ ?_)
      | go_in)
    · intro _ hl0
      have hperm := hC.out.perm HOWN.out str_law Try.underlying9 hl0
      rw [strKeys_toD] at hperm
      have hsrt := sort_rising HR.out hperm (wantB fr)
      have hlen : ((fs.map (·.1)).filter (wantB fr)).length = n := by
        rw [← hsrt, List.length_mergeSort]
        have := hrow.out.1
        rw [List.length_map] at this
        omega
      have hkl : (ks.filter (wantB fr)).length = n := by rw [← hlen, ← hsrt, List.length_mergeSort]
      rcases hrow.out.2 with ⟨hnil, hn0⟩ | ⟨g, cap, cur, hv, hbase, hb, h1, h2, h3, h4⟩
      · injection hnil with e1 e2 e3
        subst e1; subst hn0; subst e3
        have hemp : (fs.map (·.1)).filter (wantB fr) = [] := List.eq_nil_of_length_eq_zero hlen
        have HE := Lib.hid hemp
        have HST := Lib.hid (Try.slices_Sort_string_none none 0 wr)
        clear hperm hsrt hlen hkl hemp hcs hrow hC
        go_wp2_with fail
        refine HST.out.mono ?_
        rintro e w1 ⟨rfl, hE⟩
        subst hE
        go_wp2
        go_ret
        rw [HE.out]
        exact ⟨⟨none, 0, rfl, World.ownsRow_nil _ _ _ _⟩, HBL.out⟩
      · injection hv with e1 e2 e3
        subst e1; subst e3
        have hH : Holds encStr wr g 0 (ks.filter (wantB fr)).toArray := holds_of_block hb (by rw [hkl]; simpa using h4)
        have hgl : g < wr.heap.size := (Array.getElem?_eq_some_iff.1 hb).1
        have hst := Try.slices_Sort_string g 0 vc (ks.filter (wantB fr)) wr hH hgl (by rw [hkl]; have := hcs.out; omega)
        rw [hsrt, hkl] at hst
        have HST := Lib.hid hst
        have HFIN := Lib.hid (show ∀ (nn : Nat) (os : Array Obj), NamesRet w (grow (putRow encStr (Sort.ahead wr nn) g 0 ((fs.map (·.1)).filter (wantB fr)).toArray) os) ((fs.map (·.1)).filter (wantB fr)) (.returned (.slice (some ⟨g, 0, none⟩) n vc)) ∧ Below w.heap.size w (grow (putRow encStr (Sort.ahead wr nn) g 0 ((fs.map (·.1)).filter (wantB fr)).toArray) os) from fun nn os => by
          have ho := ownsRow_sorted (n := nn) (os := os) (ss := ks.filter (wantB fr)) (ts := (fs.map (·.1)).filter (wantB fr)) (by rw [hlen, hkl]) hbase hb (by rw [hkl]; exact h1) h2 h3
          rw [hkl] at ho
          refine ⟨⟨some ⟨g, 0, none⟩, vc, by rw [hlen], ?_⟩, HBL.out.grown (grownBy_sorted _) HBL.out.size (fun j hj => by cases hj; exact hbase)⟩
          rw [hlen]; exact ho)
        clear hperm hsrt hlen hkl hcs hrow hC hb h1 h2 h3 h4 hH hst
        go_wp2_with fail
        refine HST.out.mono ?_
        rintro e w1 ⟨rfl, nn, os, rfl⟩
        go_wp2
        go_ret
        exact HFIN.out nn os
    · intro x fa fn fc fk kl yd yp w2 cnt2 hkey hlk hv hat hrg2 hlt hg2 hs2 hen
      obtain ⟨x', ex, hkl, _⟩ := Maps.keyOf_str Try.underlying9 hkey
      obtain rfl : x = x' := encStr_inj ex
      subst hkl
      simp only [fileV] at hen
      have hrow2 := hrow.out.kept hg2 (Or.inr (row_ne_iter hrow.out hrg).symm)
      have hC2 := hC.out.step hlk hat
      have hb2 : Below w.heap.size w w2 := HBL.out.grown hg2 hszr (fun k hk => by injection hk with hk; omega)
      have hcs2 : ks.length + 1 + cnt2 ≤ fs.length := by have := hcs.out; omega
      have hrl := hrg.left_eq
      have HRL := Lib.hid hrl
      have HLT := Lib.hid hlt
      clear hs2 hrl hkey hlk hv hat hrg hg2 hlt hrow hC hcs
      have HW := Lib.hid (show wantB fr x = true by
        have : fr = [] := List.eq_nil_of_length_eq_zero (HL.out)
        rw [this]; rfl)
      have hs2r := hrg2
      have hrowA := hrow2.alloc (.cells #[encStr x] 9)
      have hrgA := hrg2.alloc (.cells #[encStr x] 9)
      have hbelA := hb2.alloc hb2.size (.cells #[encStr x] 9)
      have hzA := hb2.size
      have HNEL := Lib.hid (row_ne_low hrowA hbl)
      have HNEI := Lib.hid (row_ne_iter hrowA hrgA)
      have HLOW := Lib.hid (fun j hj => (hrowA.lt j hj).1)
      have HRGA := Lib.hid hrgA
      have HBELA := Lib.hid hbelA
      have HC2 := Lib.hid hC2
      have HFL := Lib.hid (show (ks ++ [x]).filter (wantB fr) = ks.filter (wantB fr) ++ [x] by rw [List.filter_append]; simp [HW.out])
      clear hC2 hrgA hbelA
      go_wp2_with (first
        | (at_builtin; refine wpList_append_own _ rfl (.tmp 26) (.tmp 28) 31 rfl w.heap.size 9 i0 (.string ⟨#[]⟩) 1 16 Try.underlying31 hi hz0 hz1 hz2 rfl (by decide) (.slice va n vc) n ((ks.filter (wantB fr)).map encStr) rfl hrowA ⟨w2.heap.size, 0, none⟩ 1 1 [encStr x] rfl rfl (one_cell_new _ _ _) (by simp [Value.oneCell', encStr]) (by unfold maxLen; omega) (by omega) (by simp; omega) ?_; intro v' w3 hown' hg3 hnil3; go_frame)
        | go_in)
      have hrg3 := HRGA.out.kept hg3 HNEL.out HNEI.out
      have hbel3 := HBELA.out.grown hg3 (by simp; omega) (fun j hj => HLOW.out j hj)
      obtain ⟨va', vc', rfl⟩ : ∃ a c, v' = .slice a (n + 1) c := by
        rcases hown'.2 with ⟨hv, h0⟩ | ⟨g, cap, cur, hv, _⟩
        · omega
        · exact ⟨_, _, hv⟩
      have hown3 : w3.ownsRow w.heap.size 9 1 (.slice va' (n + 1) vc') (n + 1) (((ks ++ [x]).filter (wantB fr)).map encStr) := by rw [HFL.out, List.map_append]; exact hown'
      have HOW3 := Lib.hid hown3
      have HM3 := Lib.hid hrg3.left_eq
      have HB3 := Lib.hid hbel3
      have HRG3 := Lib.hid hrg3
      clear hown' hown3 hg3 hnil3 hrowA hrg3 hbel3
      go_roundw
      case rel => exact ⟨_, cnt2, n + 1, ks ++ [x], va', vc', rfl, by simp; omega, Lib.hid (by simp; omega), HRG3.out, HOW3, HC2, HB3.out⟩
      case measure => rw [HM3.out, HRL.out]; exact HLT.out
set_option maxRecDepth 100000 in
set_option maxHeartbeats 4000000 in
theorem names_some (b mm : Nat) (D : Dk) (fs : List FEnt) (a : Option Addr) (m c : Nat) (fr : List ByteArray) (w : World) (h : DAt w b D) (hm : D.mb = some mm) (hown : w.ownsMap Try.prog 9 fileR mm fs.length (toD fs)) (hr : Rising fs) (hfl : fs.length ≤ 100) (hl : fr.length = m) (hm1 : m ≠ 0) (hmm : m ≤ 1048576) (hz : Texts w a fr) :
    Calls Try.prog 21 #[.pointer (some ⟨b, 0, none⟩), .slice a m c] w fun e w' => NamesRet w w' ((fs.map (·.1)).filter (wantB fr)) e ∧ Below w.heap.size w w' := by
  obtain ⟨i0, hi, hz0, hz1, hz2⟩ := info_parts info_txt
  obtain ⟨on, uses, armed, left, room, mb⟩ := D
  simp only at hm
  subst hm
  obtain ⟨⟨c0, c1, c2, c3, c4, c5⟩, _⟩ := six6_cells h
  simp only [] at c0 c1 c2 c3 c4 c5
  have hbl := hown.lt
  have HZ := Lib.hid hz
  have HL := Lib.hid hl
  have HR := Lib.hid hr
  have HOWN := Lib.hid hown
  have hm2 : ((m : Int) == 0) = false := beq_false_of_ne (by omega)
  have hm3 : decide ((m : Int) = 0) = false := decide_eq_false (by omega)
  clear h hz hl hr
  go_enter Try.func21, Try.ntmps21
  go_wp2_with (first
    | (at_range; refine wpList_range_own _ rfl _ 65 rfl 9 72 str_law Try.underlying65 _ mm _ _ rfl hown ?_; intro w0 hrg0 hg0 hs0)
    | fail)
  go_frame
  have hB0 : Below w.heap.size w w0 := (Below.refl _ _).grown hg0 (Nat.le_refl _) (fun k hk => by cases hk)
  have HB0 := Lib.hid hB0
  clear hown hg0 hB0
  go_loopw [5] (fun ov wr => ∃ (left : Lit → Bool) (cnt n : Nat) (ks : List (List UInt8)) (va : Option Addr) (vc : Nat), ov = .slice va n vc ∧ n ≤ ks.length ∧ Hid (ks.length + cnt ≤ fs.length) ∧ wr.ranges Try.prog 9 fileR mm w.heap.size fs.length (toD fs) left cnt ∧ Hid (wr.ownsRow w.heap.size 9 1 (.slice va n vc) n ((ks.filter (wantB fr)).map encStr)) ∧ Hid (Collected (toD fs) left ks) ∧ Below w.heap.size w wr) (fun _ wr => wr.rangeLeft mm w.heap.size)
  case atStart => exact ⟨_, _, 0, [], none, 0, rfl, Nat.le_refl _, Lib.hid (by rw [toD_size]; simp), hrg0, Lib.hid (World.ownsRow_nil _ _ _ _), Lib.hid (Collected.start _), HB0.out⟩
  case round =>
    obtain ⟨left, cnt, n, ks, va, vc, rfl, hnk, hcs, hrg, hrow, hC, hbel⟩ := hrel
    have HBL := Lib.hid hbel
    have hszr := hbel.size
    clear hbel
    go_wp2_with (first
      | (at_next; refine wpList_next_ranges _ rfl _ rfl 9 str_law fileR encStr fileV (fun key kl hk => by obtain ⟨x, hx, _⟩ := Maps.keyOf_str Try.underlying9 hk; exact ⟨x, hx⟩) fileR_shape mm w.heap.size fs.length _ _ _ rfl hrg ?_ ?_)
      | go_in)
    · intro _ hl0
      have hperm := hC.out.perm HOWN.out str_law Try.underlying9 hl0
      rw [strKeys_toD] at hperm
      have hsrt := sort_rising HR.out hperm (wantB fr)
      have hlen : ((fs.map (·.1)).filter (wantB fr)).length = n := by
        rw [← hsrt, List.length_mergeSort]
        have := hrow.out.1
        rw [List.length_map] at this
        omega
      have hkl : (ks.filter (wantB fr)).length = n := by rw [← hlen, ← hsrt, List.length_mergeSort]
      rcases hrow.out.2 with ⟨hnil, hn0⟩ | ⟨g, cap, cur, hv, hbase, hb, h1, h2, h3, h4⟩
      · injection hnil with e1 e2 e3
        subst e1; subst hn0; subst e3
        have hemp : (fs.map (·.1)).filter (wantB fr) = [] := List.eq_nil_of_length_eq_zero hlen
        have HE := Lib.hid hemp
        have HST := Lib.hid (Try.slices_Sort_string_none none 0 wr)
        clear hperm hsrt hlen hkl hemp hcs hrow hC
        go_wp2_with fail
        refine HST.out.mono ?_
        rintro e w1 ⟨rfl, hE⟩
        subst hE
        go_wp2
        go_ret
        rw [HE.out]
        exact ⟨⟨none, 0, rfl, World.ownsRow_nil _ _ _ _⟩, HBL.out⟩
      · injection hv with e1 e2 e3
        subst e1; subst e3
        have hH : Holds encStr wr g 0 (ks.filter (wantB fr)).toArray := holds_of_block hb (by rw [hkl]; simpa using h4)
        have hgl : g < wr.heap.size := (Array.getElem?_eq_some_iff.1 hb).1
        have hst := Try.slices_Sort_string g 0 vc (ks.filter (wantB fr)) wr hH hgl (by rw [hkl]; have := hcs.out; omega)
        rw [hsrt, hkl] at hst
        have HST := Lib.hid hst
        have HFIN := Lib.hid (show ∀ (nn : Nat) (os : Array Obj), NamesRet w (grow (putRow encStr (Sort.ahead wr nn) g 0 ((fs.map (·.1)).filter (wantB fr)).toArray) os) ((fs.map (·.1)).filter (wantB fr)) (.returned (.slice (some ⟨g, 0, none⟩) n vc)) ∧ Below w.heap.size w (grow (putRow encStr (Sort.ahead wr nn) g 0 ((fs.map (·.1)).filter (wantB fr)).toArray) os) from fun nn os => by
          have ho := ownsRow_sorted (n := nn) (os := os) (ss := ks.filter (wantB fr)) (ts := (fs.map (·.1)).filter (wantB fr)) (by rw [hlen, hkl]) hbase hb (by rw [hkl]; exact h1) h2 h3
          rw [hkl] at ho
          refine ⟨⟨some ⟨g, 0, none⟩, vc, by rw [hlen], ?_⟩, HBL.out.grown (grownBy_sorted _) HBL.out.size (fun j hj => by cases hj; exact hbase)⟩
          rw [hlen]; exact ho)
        clear hperm hsrt hlen hkl hcs hrow hC hb h1 h2 h3 h4 hH hst
        go_wp2_with fail
        refine HST.out.mono ?_
        rintro e w1 ⟨rfl, nn, os, rfl⟩
        go_wp2
        go_ret
        exact HFIN.out nn os
    · intro x fa fn fc fk kl yd yp w2 cnt2 hkey hlk hv hat hrg2 hlt hg2 hs2 hen
      obtain ⟨x', ex, hkl, _⟩ := Maps.keyOf_str Try.underlying9 hkey
      obtain rfl : x = x' := encStr_inj ex
      subst hkl
      simp only [fileV] at hen
      have hrow2 := hrow.out.kept hg2 (Or.inr (row_ne_iter hrow.out hrg).symm)
      have hC2 := hC.out.step hlk hat
      have hb2 : Below w.heap.size w w2 := HBL.out.grown hg2 hszr (fun k hk => by injection hk with hk; omega)
      have hcs2 : ks.length + 1 + cnt2 ≤ fs.length := by have := hcs.out; omega
      have hrl := hrg.left_eq
      have HRL := Lib.hid hrl
      have HLT := Lib.hid hlt
      clear hs2 hrl hkey hlk hv hat hrg hg2 hlt hrow hC hcs
      have HBG := Lib.hid (begins_any a m c fr ⟨x.toArray⟩ w2 HL.out hmm (HZ.out.below hb2))
      obtain ⟨t, ht⟩ : ∃ t, t = beginsB x fr := ⟨_, rfl⟩
      have hwt : wantB fr x = t := by
        rw [ht]
        cases fr with
        | nil => exact absurd HL.out.symm (by simpa using hm1)
        | cons y r => rfl
      rw [show (⟨x.toArray⟩ : ByteArray).data.toList = x from rfl, ← ht] at HBG
      have HW := Lib.hid hwt
      clear ht hwt
      cases t with
      | false =>
        go_wp2_with fail
        refine HBG.out.mono ?_
        rintro e w4 ⟨rfl, hb4⟩
        have hgr4 : w2.grownBy w4 none := ⟨hb4.os, hb4.tape, hb4.output, hb4.size, fun k hk _ => hb4.block k hk⟩
        have HRG4 := Lib.hid (hrg2.kept hgr4 (by simp) (by simp))
        have HROW4 := Lib.hid (own1_below hrow2 hb4)
        have HB4 := Lib.hid (Below.thenB hb2 hb2.size hb4)
        have HFL := Lib.hid (show (ks ++ [x]).filter (wantB fr) = ks.filter (wantB fr) by rw [List.filter_append]; simp [HW.out])
        have HC2 := Lib.hid hC2
        have HM4 := Lib.hid HRG4.out.left_eq
        clear hb4 hgr4 hrow2 hb2 hC2 hrg2 HBG
        go_wp2
        go_roundw
        case rel => exact ⟨_, cnt2, n, ks ++ [x], va, vc, rfl, by simp; omega, Lib.hid (by simp; omega), HRG4.out, Lib.hid (by rw [HFL.out]; exact HROW4.out), HC2, HB4.out⟩
        case measure => rw [HM4.out, HRL.out]; exact HLT.out
      | true =>
        go_wp2_with fail
        refine HBG.out.mono ?_
        rintro e w4 ⟨rfl, hb4⟩
        have hgr4 : w2.grownBy w4 none := ⟨hb4.os, hb4.tape, hb4.output, hb4.size, fun k hk _ => hb4.block k hk⟩
        have hrg4 := hrg2.kept hgr4 (by simp) (by simp)
        have hrow4 := own1_below hrow2 hb4
        have hbel4 := Below.thenB hb2 hb2.size hb4
        clear hb4 hgr4 hrow2 hb2 hrg2 HBG
        have hrowA := hrow4.alloc (.cells #[encStr x] 9)
        have hrgA := hrg4.alloc (.cells #[encStr x] 9)
        have hbelA := hbel4.alloc hbel4.size (.cells #[encStr x] 9)
        have hzA := hbel4.size
        have HNEL := Lib.hid (row_ne_low hrowA hbl)
        have HNEI := Lib.hid (row_ne_iter hrowA hrgA)
        have HLOW := Lib.hid (fun j hj => (hrowA.lt j hj).1)
        have HRGA := Lib.hid hrgA
        have HBELA := Lib.hid hbelA
        have HC2 := Lib.hid hC2
        have HFL := Lib.hid (show (ks ++ [x]).filter (wantB fr) = ks.filter (wantB fr) ++ [x] by rw [List.filter_append]; simp [HW.out])
        clear hC2 hrgA hbelA
        go_wp2_with (first
          | (at_builtin; refine wpList_append_own _ rfl (.tmp 26) (.tmp 28) 31 rfl w.heap.size 9 i0 (.string ⟨#[]⟩) 1 16 Try.underlying31 hi hz0 hz1 hz2 rfl (by decide) (.slice va n vc) n ((ks.filter (wantB fr)).map encStr) rfl hrowA ⟨w4.heap.size, 0, none⟩ 1 1 [encStr x] rfl rfl (one_cell_new _ _ _) (by simp [Value.oneCell', encStr]) (by unfold maxLen; omega) (by omega) (by simp; omega) ?_; intro v' w3 hown' hg3 hnil3; go_frame)
          | go_in)
        have hrg3 := HRGA.out.kept hg3 HNEL.out HNEI.out
        have hbel3 := HBELA.out.grown hg3 (by simp; omega) (fun j hj => HLOW.out j hj)
        obtain ⟨va', vc', rfl⟩ : ∃ a c, v' = .slice a (n + 1) c := by
          rcases hown'.2 with ⟨hv, h0⟩ | ⟨g, cap, cur, hv, _⟩
          · omega
          · exact ⟨_, _, hv⟩
        have hown3 : w3.ownsRow w.heap.size 9 1 (.slice va' (n + 1) vc') (n + 1) (((ks ++ [x]).filter (wantB fr)).map encStr) := by rw [HFL.out, List.map_append]; exact hown'
        have HOW3 := Lib.hid hown3
        have HM3 := Lib.hid hrg3.left_eq
        have HB3 := Lib.hid hbel3
        have HRG3 := Lib.hid hrg3
        clear hown' hown3 hg3 hnil3 hrowA hrg3 hbel3
        go_roundw
        case rel => exact ⟨_, cnt2, n + 1, ks ++ [x], va', vc', rfl, by simp; omega, Lib.hid (by simp; omega), HRG3.out, HOW3, HC2, HB3.out⟩
        case measure => rw [HM3.out, HRL.out]; exact HLT.out
end Go.Proofs.Ytmepanbfknmieaa
