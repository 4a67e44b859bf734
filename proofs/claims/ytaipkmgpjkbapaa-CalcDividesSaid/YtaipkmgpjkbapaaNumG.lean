/- Contract of the document's product of many numbers. -/
import Derived.Test.YtaipkmgpjkbapaaNumF
import Derived.Test.YtaipkmgpjkbapaaCalcM
import Derived.Deep.RegionWith
namespace Go.Proofs.Ytaipkmgpjkbapaa
open Go.RowKit
theorem natAbs_mul' (a b : Int) : ((a * b).natAbs : Int) = (a.natAbs : Int) * (b.natAbs : Int) := by rw [Int.natAbs_mul]; simp
theorem prod_bd {zs : List Int} (h : I64s zs) (k : Nat) (hk : k ≤ zs.length) : ((prodL (zs.take k)).natAbs : Int) ≤ pw (19 * k) := by
  induction k with
  | zero => simp [prodL, pw]
  | succ k ih =>
    have h1 := ih (by omega)
    have h2 := h.at k (by omega)
    rw [take_snocD zs k (by omega), prodL_snoc, natAbs_mul', Nat.mul_succ, pw_add]
    have h3 : ((zs.getD k 0).natAbs : Int) ≤ pw 19 := by rw [pw19]; omega
    exact Int.mul_le_mul h1 h3 (by omega) (by have := pw_pos (19 * k); omega)
set_option maxHeartbeats 4000000 in
theorem product_any (a0 : Option Addr) (m cc : Nat) (zs : List Int) (w : World) (hm : zs.length = m) (hz : Ints .i64 w a0 zs) (hi : I64s zs) (hl : m ≤ 40) :
    Calls Try.prog 15 #[.slice a0 m cc] w (NumRet (Fresh w.heap.size) (prodL zs) w) := by
  subst hm
  have hB0 : Below w.heap.size w (w.alloc (.cells #[.bool false, .slice none 0 0] 32)) := (Below.refl _ _).alloc (Nat.le_refl _) _
  go_enter Try.func15, Try.ntmps15
  go_wp2_with fail
  refine (of_any 1 _ (by decide) (by decide)).mono ?_
  rintro e w0 ⟨x0, a0', n0, c0, rfl, hnum0, hb0, hfr0⟩
  have hs0 := hb0.size
  simp only [World.size_alloc] at hb0 hfr0 hs0
  have hbl0 : Below (w.heap.size + 1) (w.alloc (.cells #[.bool false, .slice none 0 0] 32)) (w0.alloc (.cells #[.bool x0, .slice a0' n0 c0] 32)) := hb0.alloc hs0 _
  go_wp2_with fail
  go_loopw [4] (fun i wr => ∃ (k : Nat) (x : Bool) (a : Option Addr) (n c : Nat), k ≤ zs.length ∧ i = .int .i64 k ∧ wr.heap[w0.heap.size]? = some (.cells #[.bool x, .slice a n c] 32) ∧ NumP wr x a n c (prodL (zs.take k)) ∧ Fresh w.heap.size a ∧ Below (w.heap.size + 1) (w.alloc (.cells #[.bool false, .slice none 0 0] 32)) wr) (fun i _ => zs.length - (intOf i).toNat)
  case atStart => exact ⟨0, x0, a0', n0, c0, Nat.zero_le _, rfl, (MapKept.heap_alloc w0 _).1, hnum0.below ((Below.refl _ _).alloc (Nat.le_refl _) _), hfr0.mono (by omega), hbl0⟩
  case round =>
    obtain ⟨k, x, a, n, c, hk, rfl, hsb, hP, hfr, hbel⟩ := hrel
    obtain ⟨s0, s1, s2, s3⟩ := num_has hsb
    have hlt0 := blk_lt hsb
    by_cases hlt : k < zs.length
    · rcases hz with rfl | ⟨_, bs, o, rfl, hbs, hzz⟩
      · simp at hlt
      · have hzk := hzz k hlt
        rw [← (hB0.trans (hbel.mono (by omega))).cell (p := ⟨bs, o + k, none⟩) hbs] at hzk
        have hzb := hi.at k hlt
        obtain ⟨hzb1, hzb2⟩ := hzb
        have hts := take_snocD zs k hlt
        have hbd := prod_bd hi k hk
        have hpm := pw_mono (a := 19 * k) (b := 780) (by omega)
        have hnl := num_len hP (19 * k + 1) (by rw [pw_succ]; have := pw_pos (19 * k); omega)
        clear hzz
        generalize hzz : zs.getD k 0 = z at *
        have hsum : prodL (zs.take (k + 1)) = prodL (zs.take k) * z := by rw [hts, prodL_snoc]
        have HS := Lib.hid hsum
        clear hts hzz hsum hbd hpm
        generalize prodL (zs.take k) = V at *
        have hbsr : bs < wr.heap.size := by omega
        have hsB : w0.heap.size ≠ bs := by omega
        go_wp2_with fail
        go_region_with
          (first
            | (go_at_call 17; refine (of_any z _ hzb1 hzb2).mono ?_; rintro e w1 ⟨x2, a2, n2, c2, rfl, hnum2, hb2, hfr2⟩; obtain ⟨hc2, hf2⟩ := bcell hb2; have sb1 := (hb2.block w0.heap.size (by exact hlt0)).trans (by exact hsb); obtain ⟨m0, m1, m2, m3⟩ := num_has sb1; have hP2 := (NumP.drew hP).below hb2; have hn2 := num_len hnum2 30 (by rw [pw30]; omega); have z1 := (hc2 bs (o + k) (by exact hbsr)).trans (by exact hzk); clear hc2 hf2)
            | (go_at_call 21; refine (times_num x x2 a a2 n c n2 c2 _ _ _ hP2 hnum2 (by omega) (by omega)).mono ?_; rintro e w3 ⟨x3, a3, n3, c3, rfl, hnum3, hb3, hfr3⟩; have sb3 := (hb3.block _ (blk_lt sb1)).trans sb1; obtain ⟨g0, g1, g2, g3⟩ := num_has sb3))
        all_goals
          obtain ⟨r1, r2⟩ := num_set sb3 hnum3
          have hsz2 : wr.heap.size ≤ w1.heap.size := hb2.size
          have hB3 : Below (w.heap.size + 1) (w.alloc (.cells #[.bool false, .slice none 0 0] 32)) w3 := Below.thenB (Below.thenB hbel.drew (by show _ ≤ wr.heap.size; omega) hb2) (by omega) hb3
          go_wp2
          go_roundw
          case rel => exact ⟨k + 1, x3, a3, n3, c3, by omega, by go_num, r2, by rw [HS.out]; exact r1, hfr3.mono (by omega), (hB3.setCell (by simp; omega) _).setCell (by simp; omega) _⟩
          case measure => simp [intOf]; omega
    · obtain rfl : k = zs.length := by omega
      clear hlt
      rw [List.take_length] at hP
      obtain ⟨_, k0, k1, k2, k3⟩ := num_cell rfl hbel
      obtain ⟨r1, r2⟩ := num_store rfl hbel hP
      go_wp2
      simp [bodyPost, results, Try.results15, go_sem, k0, k1]
      exact ⟨_, _, _, _, rfl, r1, r2, hfr⟩
end Go.Proofs.Ytaipkmgpjkbapaa
