/- Contract of the document's sums. -/
import Derived.Test.YtaipkmgpjkbapaaNumD
namespace Go.Proofs.Ytaipkmgpjkbapaa
open Go.RowKit
theorem num_len {w : World} {x : Bool} {a : Option Addr} {n c : Nat} {V : Int} (h : NumP w x a n c V) (k : Nat) (hk : (V.natAbs : Int) < pw k) : n ≤ k := by
  obtain ⟨_, ds, hn, _, _, hcn, hv⟩ := h
  rw [← hn]; exact canon_len hcn (by rw [hv]; exact hk)
theorem pw30 : pw 30 = 1000000000000000000000000000000 := by decide
/-- A variable that is a Num, stored anew. -/
theorem num_set {w1 : World} {B : Nat} {t : TypeId} {y x : Bool} {a' a : Option Addr} {n' c' n c : Nat} {V : Int} (hblk : w1.heap[B]? = some (.cells #[.bool y, .slice a' n' c'] t)) (hn : NumP w1 x a n c V) :
    NumP ((w1.setCell ⟨B, 0, none⟩ (.bool x)).setCell ⟨B, 1, none⟩ (.slice a n c)) x a n c V ∧
    ((w1.setCell ⟨B, 0, none⟩ (.bool x)).setCell ⟨B, 1, none⟩ (.slice a n c)).heap[B]? = some (.cells #[.bool x, .slice a n c] t) := by
  refine ⟨hn.chg (S := (· = B)) (((Chg.refl (· = B) _).setCell (.inr rfl) _).setCell (.inr rfl) _) ?_, ?_⟩
  · intro hp y hy e
    obtain ⟨_, ds, hl, _, hz, _⟩ := hn
    exact ints_ne hblk hz (by rintro rfl; simp at hl; omega) y hy e
  · simp [World.setCell, Array.getElem?_modify, hblk]
/-- The cells of such a variable. -/
theorem num_has {w1 : World} {B : Nat} {t : TypeId} {y : Bool} {a' : Option Addr} {n' c' : Nat} (hblk : w1.heap[B]? = some (.cells #[.bool y, .slice a' n' c'] t)) :
    w1.cell? ⟨B, 0, none⟩ = some (.bool y) ∧ w1.cell? ⟨B, 1, none⟩ = some (.slice a' n' c') ∧ w1.frozen? ⟨B, 0, none⟩ = false ∧ w1.frozen? ⟨B, 1, none⟩ = false := by
  refine ⟨?_, ?_, ?_, ?_⟩ <;> simp [World.cell?, World.frozen?, hblk]
theorem blk_lt {w : World} {B : Nat} {o : Obj} (h : w.heap[B]? = some o) : B < w.heap.size := by
  refine Nat.lt_of_not_le fun hge => ?_
  rw [Array.getElem?_eq_none hge] at h; cases h
theorem blk_alloc {w : World} {B : Nat} {o : Obj} (h : w.heap[B]? = some o) (o' : Obj) : (w.alloc o').heap[B]? = some o := (Below.heap_alloc _ _ _ (blk_lt h)).trans h
theorem blk_set {w : World} {B C : Nat} {o : Obj} (h : w.heap[B]? = some o) (hne : B ≠ C) {i : Nat} {u : Value} : (w.setCell ⟨C, i, none⟩ u).heap[B]? = some o := (Below.heap_setCell _ _ _ _ hne).trans h
set_option maxHeartbeats 4000000 in
theorem sum_pos (a0 : Option Addr) (m cc : Nat) (zs : List Int) (w : World) (hm : zs.length = m) (hz : Ints .i64 w a0 zs) (hi : I64s zs) (hl : m ≤ 1048576) :
    Calls Try.prog 14 #[.slice a0 m cc, .bool false] w (NumRet (Fresh w.heap.size) (sumL zs) w) := by
  subst hm
  go_enter Try.func14, Try.ntmps14
  go_wp2
  go_loopw [6] (fun i wr => ∃ (k : Nat) (x : Bool) (a : Option Addr) (n c : Nat), k ≤ zs.length ∧ i = .int .i64 k ∧ wr.heap[w.heap.size + 1]? = some (.cells #[.bool x, .slice a n c] 32) ∧ NumP wr x a n c (sumL (zs.take k)) ∧ Fresh w.heap.size a ∧ Below (w.heap.size + 1) (w.alloc (.cells #[.bool false, .slice none 0 0] 32)) wr) (fun i _ => zs.length - (intOf i).toNat)
  case atStart => exact ⟨0, false, none, 0, 0, Nat.zero_le _, rfl, by have := (MapKept.heap_alloc (w.alloc (.cells #[.bool false, .slice none 0 0] 32)) (.cells #[.bool false, .slice none 0 0] 32)).1; simpa using this, ⟨by simp [sumL], [], rfl, Nat.le_refl _, .inl rfl, canon_nil, by simp [sumL, dval]⟩, (fun y hy => by cases hy), (Below.refl _ _).alloc (by simp) _⟩
  case round =>
    obtain ⟨k, x, a, n, c, hk, rfl, hsb, hP, hfr, hbel⟩ := hrel
    have hs := sumL_bd hi k hk
    obtain ⟨s0, s1, s2, s3⟩ := num_has hsb
    have hB0 : Below w.heap.size w wr := ((Below.refl _ _).alloc (Nat.le_refl _) _).trans (hbel.mono (by omega))
    by_cases hlt : k < zs.length
    · rcases hz with rfl | ⟨_, bs, o, rfl, hbs, hzz⟩
      · simp at hlt
      · have hzk := hzz k hlt
        rw [← hB0.cell (p := ⟨bs, o + k, none⟩) hbs] at hzk
        have hzb := hi.at k hlt
        obtain ⟨hzb1, hzb2⟩ := hzb
        have hts := take_snocD zs k hlt
        clear hzz
        generalize hzz : zs.getD k 0 = z at *
        have hsum : sumL (zs.take (k + 1)) = sumL (zs.take k) + z := by rw [hts, sumL_snoc]
        have HS := Lib.hid hsum
        clear hts hzz hsum
        generalize sumL (zs.take k) = V at *
        go_wp2_with fail
        refine (of_any z _ hzb1 hzb2).mono ?_
        rintro e w1 ⟨x2, a2, n2, c2, rfl, hnum2, hb2, _⟩
        have hlt0 := blk_lt hsb
        have hsb1 := (hb2.block _ hlt0).trans hsb
        have hP1 := hP.below hb2
        have hlen1 := num_len hP1 30 (by rw [pw30]; omega)
        have hlen2 := num_len hnum2 30 (by rw [pw30]; omega)
        have hsz1 := hb2.size
        have hlt1 := blk_lt hsb1
        have hW : ∀ o, Below w1.heap.size w1 (w1.alloc o) := fun o => (Below.refl _ _).alloc (Nat.le_refl _) o
        have hB1 : Below (w.heap.size + 1) (w.alloc (.cells #[.bool false, .slice none 0 0] 32)) w1 := Below.thenB hbel (by omega) hb2
        have hsbA := fun o => blk_alloc hsb1 o
        have j0 := fun o => (num_has (hsbA o)).1
        have j1 := fun o => (num_has (hsbA o)).2.1
        clear hsbA
        go_wp2_with fail
        refine (plus_num x x2 a a2 n c n2 c2 _ _ _ (hP1.below (hW _)) (hnum2.below (hW _)) (by omega) (by omega)).mono ?_
        rintro e w3 ⟨x3, a3, n3, c3, rfl, hnum3, hb3, hfr3⟩
        have hsb3 := (hb3.block _ (by simp; omega)).trans (blk_alloc hsb1 _)
        have hB3 : Below (w.heap.size + 1) (w.alloc (.cells #[.bool false, .slice none 0 0] 32)) w3 := Below.thenB (hB1.alloc (by omega) _) (by simp; omega) hb3
        obtain ⟨s0, s1, s2, s3⟩ := num_has hsb3
        obtain ⟨r1, r2⟩ := num_set hsb3 hnum3
        have hsz3 := hB3.size
        clear j0 j1
        go_wp2
        go_roundw
        case rel => exact ⟨k + 1, x3, a3, n3, c3, by omega, by go_num, r2, by rw [HS.out]; simpa [Int.neg_add, Int.sub_eq_add_neg] using r1, hfr3.mono (by simp; omega), (hB3.setCell (by simp) _).setCell (by simp) _⟩
        case measure => simp [intOf]; omega
    · obtain rfl : k = zs.length := by omega
      clear hlt
      rw [List.take_length] at hP
      obtain ⟨_, k0, k1, k2, k3⟩ := num_cell rfl hbel
      obtain ⟨r1, r2⟩ := num_store rfl hbel hP
      go_wp2
      simp [bodyPost, results, Try.results14, go_sem, k0, k1]
      exact ⟨_, _, _, _, rfl, r1, r2, hfr⟩
set_option maxHeartbeats 4000000 in
theorem sum_neg (a0 : Option Addr) (m cc : Nat) (zs : List Int) (w : World) (hm : zs.length = m) (hz : Ints .i64 w a0 zs) (hi : I64s zs) (hl : m ≤ 1048576) :
    Calls Try.prog 14 #[.slice a0 m cc, .bool true] w (NumRet (Fresh w.heap.size) (-sumL zs) w) := by
  subst hm
  go_enter Try.func14, Try.ntmps14
  go_wp2
  go_loopw [6] (fun i wr => ∃ (k : Nat) (x : Bool) (a : Option Addr) (n c : Nat), k ≤ zs.length ∧ i = .int .i64 k ∧ wr.heap[w.heap.size + 1]? = some (.cells #[.bool x, .slice a n c] 32) ∧ NumP wr x a n c (-sumL (zs.take k)) ∧ Fresh w.heap.size a ∧ Below (w.heap.size + 1) (w.alloc (.cells #[.bool false, .slice none 0 0] 32)) wr) (fun i _ => zs.length - (intOf i).toNat)
  case atStart => exact ⟨0, false, none, 0, 0, Nat.zero_le _, rfl, by have := (MapKept.heap_alloc (w.alloc (.cells #[.bool false, .slice none 0 0] 32)) (.cells #[.bool false, .slice none 0 0] 32)).1; simpa using this, ⟨by simp [sumL], [], rfl, Nat.le_refl _, .inl rfl, canon_nil, by simp [sumL, dval]⟩, (fun y hy => by cases hy), (Below.refl _ _).alloc (by simp) _⟩
  case round =>
    obtain ⟨k, x, a, n, c, hk, rfl, hsb, hP, hfr, hbel⟩ := hrel
    have hs := sumL_bd hi k hk
    obtain ⟨s0, s1, s2, s3⟩ := num_has hsb
    have hB0 : Below w.heap.size w wr := ((Below.refl _ _).alloc (Nat.le_refl _) _).trans (hbel.mono (by omega))
    by_cases hlt : k < zs.length
    · rcases hz with rfl | ⟨_, bs, o, rfl, hbs, hzz⟩
      · simp at hlt
      · have hzk := hzz k hlt
        rw [← hB0.cell (p := ⟨bs, o + k, none⟩) hbs] at hzk
        have hzb := hi.at k hlt
        obtain ⟨hzb1, hzb2⟩ := hzb
        have hts := take_snocD zs k hlt
        clear hzz
        generalize hzz : zs.getD k 0 = z at *
        have hsum : sumL (zs.take (k + 1)) = sumL (zs.take k) + z := by rw [hts, sumL_snoc]
        have HS := Lib.hid hsum
        clear hts hzz hsum
        generalize sumL (zs.take k) = V at *
        go_wp2_with fail
        refine (of_any z _ hzb1 hzb2).mono ?_
        rintro e w1 ⟨x2, a2, n2, c2, rfl, hnum2, hb2, _⟩
        have hlt0 := blk_lt hsb
        have hsb1 := (hb2.block _ hlt0).trans hsb
        have hP1 := hP.below hb2
        have hlen1 := num_len hP1 30 (by rw [pw30]; omega)
        have hlen2 := num_len hnum2 30 (by rw [pw30]; omega)
        have hsz1 := hb2.size
        have hlt1 := blk_lt hsb1
        have hW : ∀ o, Below w1.heap.size w1 (w1.alloc o) := fun o => (Below.refl _ _).alloc (Nat.le_refl _) o
        have hB1 : Below (w.heap.size + 1) (w.alloc (.cells #[.bool false, .slice none 0 0] 32)) w1 := Below.thenB hbel (by omega) hb2
        have hsbA := fun o => blk_alloc hsb1 o
        have hnb : ∀ u, (w1.alloc (.cells #[.bool x2, .slice a2 n2 c2] u)).heap[w1.heap.size]? = some (.cells #[.bool x2, .slice a2 n2 c2] u) := fun u => (MapKept.heap_alloc w1 _).1
        go_wp2_with fail
        refine (minus_any x2 a2 n2 c2 z _ (hnum2.below (hW _)) (by omega)).mono ?_
        rintro e w2 ⟨x4, a4, n4, c4, rfl, hnum4, hb4, hq4⟩
        clear hq4
        have hsb4 := (hb4.block _ (by simp; omega)).trans (hsbA _)
        have hnb4 := (hb4.block w1.heap.size (by simp)).trans (hnb _)
        have hP4 := (hP1.below (hW _)).below hb4
        have hsz4 := hb4.size
        simp at hsz4
        obtain ⟨t0, t1, t2, t3⟩ := num_has hnb4
        obtain ⟨hnumN, hnbN⟩ := num_set hnb4 hnum4
        have hneB : w.heap.size + 1 ≠ w1.heap.size := by omega
        have hsbN := blk_set (u := .slice a4 n4 c4) (i := 1) (blk_set (u := .bool x4) (i := 0) hsb4 hneB) hneB
        have hPN := hP4.chg (S := (· = w1.heap.size)) (((Chg.refl (· = w1.heap.size) w2).setCell (p := ⟨w1.heap.size, 0, none⟩) (.inr rfl) (.bool x4)).setCell (p := ⟨w1.heap.size, 1, none⟩) (.inr rfl) (.slice a4 n4 c4)) (fun hp y hy => by
          obtain ⟨_, ds, hl, _, hzz, _⟩ := hP4
          exact ints_ne hnb4 hzz (by rintro rfl; simp at hl; omega) y hy)
        have hlen4 := num_len hnum4 30 (by rw [pw30]; omega)
        have hB2 : Below (w.heap.size + 1) (w.alloc (.cells #[.bool false, .slice none 0 0] 32)) ((w2.setCell ⟨w1.heap.size, 0, none⟩ (.bool x4)).setCell ⟨w1.heap.size, 1, none⟩ (.slice a4 n4 c4)) := ((Below.thenB (hB1.alloc (by omega) (.cells #[.bool x2, .slice a2 n2 c2] 32)) (by simp; omega) hb4).setCell (by simp; omega) _).setCell (by simp; omega) _
        obtain ⟨i0, i1, i2, i3⟩ := num_has hnbN
        obtain ⟨j0, j1, j2, j3⟩ := num_has hsbN
        clear hsbA hnb
        go_wp2_with fail
        refine (plus_num x x4 a a4 n c n4 c4 _ _ _ hPN hnumN (by omega) (by omega)).mono ?_
        rintro e w3 ⟨x3, a3, n3, c3, rfl, hnum3, hb3, hfr3⟩
        have hsb3 := (hb3.block _ (blk_lt hsbN)).trans hsbN
        have hB3 : Below (w.heap.size + 1) (w.alloc (.cells #[.bool false, .slice none 0 0] 32)) w3 := Below.thenB hB2 (by simp; omega) hb3
        obtain ⟨s0, s1, s2, s3⟩ := num_has hsb3
        obtain ⟨r1, r2⟩ := num_set hsb3 hnum3
        have hsz3 := hB3.size
        clear j0 j1
        go_wp2
        go_roundw
        case rel => exact ⟨k + 1, x3, a3, n3, c3, by omega, by go_num, r2, by rw [HS.out]; simpa [Int.neg_add, Int.sub_eq_add_neg] using r1, hfr3.mono (by simp; omega), (hB3.setCell (by simp) _).setCell (by simp) _⟩
        case measure => simp [intOf]; omega
    · obtain rfl : k = zs.length := by omega
      clear hlt
      rw [List.take_length] at hP
      obtain ⟨_, k0, k1, k2, k3⟩ := num_cell rfl hbel
      obtain ⟨r1, r2⟩ := num_store rfl hbel hP
      go_wp2
      simp [bodyPost, results, Try.results14, go_sem, k0, k1]
      exact ⟨_, _, _, _, rfl, r1, r2, hfr⟩
end Go.Proofs.Ytaipkmgpjkbapaa
