/- Contract of the document's test of a quotient. -/
import Derived.Test.YtaipkmgpjkbapaaNumG
import Derived.Deep.DeepCutAuto
namespace Go.Proofs.Ytaipkmgpjkbapaa
open Go.RowKit
/-- A number that is less than so many digits. -/
theorem num_small {w : World} {x : Bool} {a : Option Addr} {n c : Nat} {V : Int} (h : NumP w x a n c V) (h1 : -1000000000000000000000000000000 < V) (h2 : V < 1000000000000000000000000000000) : n ≤ 30 := num_len h 30 (by rw [pw30]; omega)
/-- A variable that is the number V. -/
def NumVar (w : World) (g : Nat) (V : Int) : Prop := ∃ x a n c, w.heap[g]? = some (.cells #[.bool x, .slice a n c] 32) ∧ NumP w x a n c V
theorem NumVar.below {w w' : World} {g : Nat} {V : Int} (h : NumVar w g V) (hb : Below w.heap.size w w') : NumVar w' g V := by
  obtain ⟨x, a, n, c, h1, h2⟩ := h
  exact ⟨x, a, n, c, (hb.block g (blk_lt h1)).trans h1, h2.below hb⟩
theorem NumVar.alloc {w : World} {g : Nat} {V : Int} (h : NumVar w g V) (o : Obj) : NumVar (w.alloc o) g V := h.below ((Below.refl _ _).alloc (Nat.le_refl _) _)
theorem NumVar.new {w : World} {x : Bool} {a : Option Addr} {n c : Nat} {V : Int} (h : NumP w x a n c V) : NumVar (w.alloc (.cells #[.bool x, .slice a n c] 32)) w.heap.size V :=
  ⟨x, a, n, c, (MapKept.heap_alloc w _).1, h.below ((Below.refl _ _).alloc (Nat.le_refl _) _)⟩
theorem num_pos {w : World} {x : Bool} {a : Option Addr} {n c : Nat} {V : Int} (h : NumP w x a n c V) (hv : V ≠ 0) : 0 < n := by
  obtain ⟨_, ds, hl, _, _, hcn, hd⟩ := h
  refine Nat.pos_of_ne_zero fun e => hv ?_
  have : ds = [] := List.eq_nil_of_length_eq_zero (by omega)
  have := (canon_nil_iff hcn).1 this
  omega
theorem NumVar.drew {w : World} {g : Nat} {V : Int} (h : NumVar w g V) : NumVar w.drew g V := h
theorem blk_drew {w : World} {B : Nat} {o : Obj} (h : w.heap[B]? = some o) : w.drew.heap[B]? = some o := h
theorem NumVar.lt {w : World} {g : Nat} {V : Int} (h : NumVar w g V) : g < w.heap.size := by
  obtain ⟨x, a, n, c, h1, h2⟩ := h
  exact blk_lt h1
/-- A store into another variable. -/
theorem NumVar.store {w : World} {g B : Nat} {V : Int} {y x : Bool} {a' a : Option Addr} {n' c' n c : Nat} (h : NumVar w g V) (hne : g ≠ B) (hblk : w.heap[B]? = some (.cells #[.bool y, .slice a' n' c'] 32)) :
    NumVar ((w.setCell ⟨B, 0, none⟩ (.bool x)).setCell ⟨B, 1, none⟩ (.slice a n c)) g V := by
  obtain ⟨x1, a1, n1, c1, h1, h2⟩ := h
  refine ⟨x1, a1, n1, c1, blk_set (blk_set h1 hne) hne, h2.chg (S := (· = B)) (((Chg.refl (· = B) _).setCell (.inr rfl) _).setCell (.inr rfl) _) (fun hp yy hy => ?_)⟩
  obtain ⟨_, ds, hl, _, hz, _⟩ := h2
  exact ints_ne hblk hz (by rintro rfl; simp at hl; omega) yy hy
theorem NumVar.stored {w : World} {B : Nat} {V : Int} {y x : Bool} {a' a : Option Addr} {n' c' n c : Nat} (hblk : w.heap[B]? = some (.cells #[.bool y, .slice a' n' c'] 32)) (h : NumP w x a n c V) :
    NumVar ((w.setCell ⟨B, 0, none⟩ (.bool x)).setCell ⟨B, 1, none⟩ (.slice a n c)) B V :=
  ⟨x, a, n, c, (num_set hblk h).2, (num_set hblk h).1⟩
theorem num_is {w : World} {g : Nat} {V : Int} (h : NumVar w g V) : ∃ x a n c, w.heap[g]? = some (.cells #[.bool x, .slice a n c] 32) ∧ NumP w x a n c V := h
theorem pw60 : pw 60 = 1000000000000000000000000000000000000000000000000000000000000 := by decide
theorem mul_lt60 {b q : Int} (h1 : -9223372036854775808 ≤ b) (h2 : b ≤ 9223372036854775807) (h3 : -9223372036854775808 ≤ q) (h4 : q ≤ 9223372036854775807) : -100000000000000000000000000000000000000 < b * q ∧ b * q < 100000000000000000000000000000000000000 := by
  have h : (b * q).natAbs ≤ 9223372036854775808 * 9223372036854775808 := by
    rw [Int.natAbs_mul]; exact Nat.mul_le_mul (by omega) (by omega)
  omega
theorem num_small60 {w : World} {x : Bool} {a : Option Addr} {n c : Nat} {V : Int} (h : NumP w x a n c V) (h1 : -200000000000000000000000000000000000000 < V) (h2 : V < 200000000000000000000000000000000000000) : n ≤ 60 := num_len h 60 (by rw [pw60]; omega)
/-- Whether q is the quotient of a by b, rounded down. -/
def isFloor (a b q : Int) : Bool := if b < 0 then decide (b * q + b < a ∧ a ≤ b * q) else decide (b * q ≤ a ∧ a < b * q + b)
set_option maxRecDepth 100000 in
set_option maxHeartbeats 4000000 in
theorem floor_any (a b q : Int) (w : World) (ha : -9223372036854775808 ≤ a) (ha' : a ≤ 9223372036854775807) (hb : -9223372036854775808 ≤ b) (hb' : b ≤ 9223372036854775807) (hq : -9223372036854775808 ≤ q) (hq' : q ≤ 9223372036854775807) (hf : isFloor a b q = true) :
    Calls Try.prog 22 #[.int .i64 a, .int .i64 b, .int .i64 q] w fun e w' => e = .returned (.bool true) ∧ Below w.heap.size w w' := by
  obtain ⟨m1, m2⟩ := mul_lt60 hb hb' hq hq'
  unfold isFloor at hf
  have HF := Lib.hid hf
  clear hf
  go_enter Try.func22, Try.ntmps22
  go_wp2_with fail
  refine (of_any b _ hb hb').mono ?_
  rintro e w1 ⟨x1, a1, n1, c1, rfl, hn1, hb1, _⟩
  have l1 := num_small hn1 (by omega) (by omega)
  go_wp2_with fail
  refine (of_any q _ hq hq').mono ?_
  rintro e w2 ⟨x2, a2, n2, c2, rfl, hn2, hb2, _⟩
  have hB2 := Below.thenB hb1 hb1.size hb2
  have l2 := num_small hn2 (by omega) (by omega)
  go_wp2_with fail
  refine (times_num x1 x2 a1 a2 n1 c1 n2 c2 _ _ _ (hn1.below hb2) hn2 (by omega) (by omega)).mono ?_
  rintro e w3 ⟨x3, a3, n3, c3, rfl, hn3, hb3, _⟩
  have hB3 := Below.thenB hB2 hB2.size hb3
  generalize b * q = m at *
  have l3 := num_small60 hn3 (by omega) (by omega)
  have hv3 := NumVar.new hn3
  have hB3' := hB3.alloc hB3.size (.cells #[.bool x3, .slice a3 n3 c3] 32)
  obtain ⟨W, hW⟩ : ∃ W, W = w3.alloc (.cells #[.bool x3, .slice a3 n3 c3] 32) := ⟨_, rfl⟩
  obtain ⟨g3, hg3⟩ : ∃ g3, g3 = w3.heap.size := ⟨_, rfl⟩
  rw [← hW, ← hg3] at hv3
  rw [← hW] at hB3'
  obtain ⟨xl, al, nl, cl, sl, hl⟩ := num_is hv3
  have ll := num_small60 hl (by omega) (by omega)
  have hBW := hB3'
  have zB := hBW.size
  have hBWd := hBW.drew
  go_upto_region 2 with fail
  rw [← hW, ← hg3]
  clear hW hg3 hn3 hb1 hb2 hb3 hn1 hn2
  go_cut [8] (fun s8 wx => ∃ g : Nat, s8 = .pointer (some ⟨g, 0, none⟩) ∧ NumVar wx g (m + b) ∧ NumVar wx g3 (m) ∧ w.heap.size ≤ g ∧ Below w.heap.size w wx)
  case first =>
    have zgg3 : g3 < W.heap.size := blk_lt sl
    have sld := blk_drew sl
    have hld := NumP.drew hl
    obtain ⟨c0, c1, _, _⟩ := num_has sld
    have e0 := fun o => (num_has (blk_alloc sld o)).1
    have e1 := fun o => (num_has (blk_alloc sld o)).2.1
    have e2 := fun o => (num_has (blk_drew (blk_alloc sl o))).1
    have e3 := fun o => (num_has (blk_drew (blk_alloc sl o))).2.1
    go_region_held3 (fun w' => w'.cell? ⟨g3, 0, none⟩ = some (.bool xl) ∧ w'.cell? ⟨g3, 1, none⟩ = some (.slice al nl cl)) (first | with_reducible exact ⟨e0 _, e1 _⟩ | with_reducible exact ⟨e2 _, e3 _⟩ | with_reducible exact ⟨c0u0, c1u0⟩ | with_reducible exact ⟨e0u0 _, e1u0 _⟩ | with_reducible exact ⟨c0u1, c1u1⟩ | with_reducible exact ⟨e0u1 _, e1u1 _⟩ | with_reducible exact ⟨(cell_set2 (by omega)).trans c0u1, (cell_set2 (by omega)).trans c1u1⟩ | go_keep)
      (first
        | (go_at_call 17; refine (of_any b _ hb hb').mono ?_; rintro e u0 ⟨xu0, au0, nu0, cu0, rfl, hu0, bu0, hqu0⟩; clear hqu0; have lu0 := num_small60 hu0 (by omega) (by omega); have zu0 := bu0.size; (try simp at zu0); have sbu0 : u0.heap[g3]? = some (.cells #[.bool xl, .slice al nl cl] 32) := (by first | exact (bu0.block _ (blk_lt sld)).trans sld | exact (bu0.block _ (blk_lt (blk_alloc sld _))).trans (blk_alloc sld _) | exact (bu0.block _ (blk_lt (blk_drew (blk_alloc sl _)))).trans (blk_drew (blk_alloc sl _))); have hpu0 : NumP u0 xl al nl cl (m) := (by first | exact hld.below bu0 | exact (hld.below ((Below.refl _ _).alloc (Nat.le_refl _) (.cells #[.bool false, .slice none 0 0] 32))).below bu0 | exact (NumP.drew (hl.below ((Below.refl _ _).alloc (Nat.le_refl _) (.cells #[.bool false, .slice none 0 0] 32)))).below bu0); obtain ⟨c0u0, c1u0, _, _⟩ := num_has sbu0; have e0u0 := fun o => (num_has (blk_alloc sbu0 o)).1; have e1u0 := fun o => (num_has (blk_alloc sbu0 o)).2.1; have Bu0 : Below w.heap.size w u0 := (by first | exact Below.thenB hBWd (by simp; omega) bu0 | exact Below.thenB hBWd (by omega) bu0 | exact Below.thenB (hBWd.alloc (by omega) (.cells #[.bool false, .slice none 0 0] 32)) (by simp; omega) bu0 | exact Below.thenB (hBWd.alloc (by simp; omega) (.cells #[.bool false, .slice none 0 0] 32)) (by simp; omega) bu0 | exact Below.thenB (hBW.alloc (by omega) (.cells #[.bool false, .slice none 0 0] 32)).drew (by simp; omega) bu0); (first | (have s8 : u0.heap[W.heap.size]? = some (.cells #[.bool false, .slice none 0 0] 32) := (bu0.block W.heap.size (by simp)).trans (MapKept.heap_alloc W (.cells #[.bool false, .slice none 0 0] 32)).1; have q8 := num_has s8) | skip))
        | (go_at_call 16; refine (plus_num xl xu0 al au0 nl cl nu0 cu0 _ _ _ (by first | with_reducible exact hpu0 | with_reducible exact (hpu0.below ((Below.refl _ _).alloc (Nat.le_refl _) (.cells #[.bool false, .slice none 0 0] 32)))) (by first | with_reducible exact hu0 | with_reducible exact (hu0.below ((Below.refl _ _).alloc (Nat.le_refl _) (.cells #[.bool false, .slice none 0 0] 32)))) (by omega) (by omega)).mono ?_; rintro e u1 ⟨xu1, au1, nu1, cu1, rfl, hu1, bu1, hqu1⟩; clear hqu1; have lu1 := num_small60 hu1 (by omega) (by omega); have zu1 := bu1.size; (try simp at zu1); have sbu1 : u1.heap[g3]? = some (.cells #[.bool xl, .slice al nl cl] 32) := (by first | exact (bu1.block _ (blk_lt sbu0)).trans sbu0 | exact (bu1.block _ (blk_lt (blk_alloc sbu0 _))).trans (blk_alloc sbu0 _)); have hpu1 : NumP u1 xl al nl cl (m) := (by first | exact hpu0.below bu1 | exact (hpu0.below ((Below.refl _ _).alloc (Nat.le_refl _) (.cells #[.bool false, .slice none 0 0] 32))).below bu1); have hu0u1 : NumP u1 xu0 au0 nu0 cu0 (b) := (by first | exact hu0.below bu1 | exact (hu0.below ((Below.refl _ _).alloc (Nat.le_refl _) (.cells #[.bool false, .slice none 0 0] 32))).below bu1); obtain ⟨c0u1, c1u1, _, _⟩ := num_has sbu1; have e0u1 := fun o => (num_has (blk_alloc sbu1 o)).1; have e1u1 := fun o => (num_has (blk_alloc sbu1 o)).2.1; have Bu1 : Below w.heap.size w u1 := (by first | exact Below.thenB Bu0 (by simp; omega) bu1 | exact Below.thenB Bu0 (by omega) bu1 | exact Below.thenB (Bu0.alloc (by omega) (.cells #[.bool false, .slice none 0 0] 32)) (by simp; omega) bu1 | exact Below.thenB (Bu0.alloc (by simp; omega) (.cells #[.bool false, .slice none 0 0] 32)) (by simp; omega) bu1); (first | (have s8 := (bu1.block _ (blk_lt s8)).trans s8; have q8 := num_has s8) | (have s8 : u1.heap[u0.heap.size]? = some (.cells #[.bool false, .slice none 0 0] 32) := (bu1.block u0.heap.size (by simp)).trans (MapKept.heap_alloc u0 (.cells #[.bool false, .slice none 0 0] 32)).1; have q8 := num_has s8) | skip)))
    all_goals (go_wp2_with fail; go_meet)
    all_goals first
      | exact ⟨_, rfl, NumVar.stored s8 hu1, NumVar.store ((⟨xl, al, nl, cl, sbu1, hpu1⟩ : NumVar u1 g3 _)) (by omega) s8, by omega, (Bu1.setCell (by simp; omega) _).setCell (by simp; omega) _⟩
      | exact ⟨_, rfl, NumVar.new hu1, NumVar.alloc ((⟨xl, al, nl, cl, sbu1, hpu1⟩ : NumVar u1 g3 _)) _, by omega, Bu1.alloc (by omega) _⟩
  case rest =>
  obtain ⟨g8, rfl, hVg8, hVg3, hge8, hBc⟩ := hcut
  clear hBW hBWd zB hB3' hv3 sl hl
  obtain ⟨xl, al, nl, cl, sl, hl⟩ := num_is hVg3
  have ll2 := num_small60 hl (by omega) (by omega)
  have hBW := hBc
  have zB := hBW.size
  have hBWd := hBW.drew
  go_upto_region 3 with fail
  go_cut [9] (fun s8 wx => ∃ g : Nat, s8 = .pointer (some ⟨g, 0, none⟩) ∧ NumVar wx g (a + -(m)) ∧ NumVar wx g8 (m + b) ∧ NumVar wx g3 (m) ∧ w.heap.size ≤ g ∧ Below w.heap.size w wx)
  case first =>
    have zgg3 : g3 < wc.heap.size := blk_lt sl
    have sld := blk_drew sl
    have hld := NumP.drew hl
    have hVg8d := NumVar.drew hVg8
    have zhVg8 := hVg8.lt
    obtain ⟨c0, c1, _, _⟩ := num_has sld
    have e0 := fun o => (num_has (blk_alloc sld o)).1
    have e1 := fun o => (num_has (blk_alloc sld o)).2.1
    have e2 := fun o => (num_has (blk_drew (blk_alloc sl o))).1
    have e3 := fun o => (num_has (blk_drew (blk_alloc sl o))).2.1
    go_region_held3 (fun w' => w'.cell? ⟨g3, 0, none⟩ = some (.bool xl) ∧ w'.cell? ⟨g3, 1, none⟩ = some (.slice al nl cl)) (first | with_reducible exact ⟨e0 _, e1 _⟩ | with_reducible exact ⟨e2 _, e3 _⟩ | with_reducible exact ⟨c0u0, c1u0⟩ | with_reducible exact ⟨e0u0 _, e1u0 _⟩ | with_reducible exact ⟨c0u1, c1u1⟩ | with_reducible exact ⟨e0u1 _, e1u1 _⟩ | with_reducible exact ⟨c0u2, c1u2⟩ | with_reducible exact ⟨e0u2 _, e1u2 _⟩ | with_reducible exact ⟨(cell_set2 (by omega)).trans c0u2, (cell_set2 (by omega)).trans c1u2⟩ | go_keep)
      (first
        | (go_at_call 17; refine (of_any a _ ha ha').mono ?_; rintro e u0 ⟨xu0, au0, nu0, cu0, rfl, hu0, bu0, hqu0⟩; clear hqu0; have lu0 := num_small60 hu0 (by omega) (by omega); have zu0 := bu0.size; (try simp at zu0); have sbu0 : u0.heap[g3]? = some (.cells #[.bool xl, .slice al nl cl] 32) := (by first | exact (bu0.block _ (blk_lt sld)).trans sld | exact (bu0.block _ (blk_lt (blk_alloc sld _))).trans (blk_alloc sld _) | exact (bu0.block _ (blk_lt (blk_drew (blk_alloc sl _)))).trans (blk_drew (blk_alloc sl _))); have hpu0 : NumP u0 xl al nl cl (m) := (by first | exact hld.below bu0 | exact (hld.below ((Below.refl _ _).alloc (Nat.le_refl _) (.cells #[.bool false, .slice none 0 0] 32))).below bu0 | exact (NumP.drew (hl.below ((Below.refl _ _).alloc (Nat.le_refl _) (.cells #[.bool false, .slice none 0 0] 32)))).below bu0); have hVg8u0 : NumVar u0 g8 (m + b) := (by first | exact hVg8d.below bu0 | exact (hVg8d.alloc (.cells #[.bool false, .slice none 0 0] 32)).below bu0 | exact (NumVar.drew (hVg8.alloc (.cells #[.bool false, .slice none 0 0] 32))).below bu0); obtain ⟨c0u0, c1u0, _, _⟩ := num_has sbu0; have e0u0 := fun o => (num_has (blk_alloc sbu0 o)).1; have e1u0 := fun o => (num_has (blk_alloc sbu0 o)).2.1; have Bu0 : Below w.heap.size w u0 := (by first | exact Below.thenB hBWd (by simp; omega) bu0 | exact Below.thenB hBWd (by omega) bu0 | exact Below.thenB (hBWd.alloc (by omega) (.cells #[.bool false, .slice none 0 0] 32)) (by simp; omega) bu0 | exact Below.thenB (hBWd.alloc (by simp; omega) (.cells #[.bool false, .slice none 0 0] 32)) (by simp; omega) bu0 | exact Below.thenB (hBW.alloc (by omega) (.cells #[.bool false, .slice none 0 0] 32)).drew (by simp; omega) bu0); (first | (have s8 : u0.heap[wc.heap.size]? = some (.cells #[.bool false, .slice none 0 0] 32) := (bu0.block wc.heap.size (by simp)).trans (MapKept.heap_alloc wc (.cells #[.bool false, .slice none 0 0] 32)).1; have q8 := num_has s8) | skip))
        | (go_at_call 18; refine (minus_any xl al nl cl _ _ (by first | with_reducible exact hpu0 | with_reducible exact (hpu0.below ((Below.refl _ _).alloc (Nat.le_refl _) (.cells #[.bool false, .slice none 0 0] 32)))) (by omega)).mono ?_; rintro e u1 ⟨xu1, au1, nu1, cu1, rfl, hu1, bu1, hqu1⟩; clear hqu1; have lu1 := num_small60 hu1 (by omega) (by omega); have zu1 := bu1.size; (try simp at zu1); have sbu1 : u1.heap[g3]? = some (.cells #[.bool xl, .slice al nl cl] 32) := (by first | exact (bu1.block _ (blk_lt sbu0)).trans sbu0 | exact (bu1.block _ (blk_lt (blk_alloc sbu0 _))).trans (blk_alloc sbu0 _)); have hpu1 : NumP u1 xl al nl cl (m) := (by first | exact hpu0.below bu1 | exact (hpu0.below ((Below.refl _ _).alloc (Nat.le_refl _) (.cells #[.bool false, .slice none 0 0] 32))).below bu1); have hVg8u1 : NumVar u1 g8 (m + b) := (by first | exact hVg8u0.below bu1 | exact (hVg8u0.alloc (.cells #[.bool false, .slice none 0 0] 32)).below bu1); have hu0u1 : NumP u1 xu0 au0 nu0 cu0 (a) := (by first | exact hu0.below bu1 | exact (hu0.below ((Below.refl _ _).alloc (Nat.le_refl _) (.cells #[.bool false, .slice none 0 0] 32))).below bu1); obtain ⟨c0u1, c1u1, _, _⟩ := num_has sbu1; have e0u1 := fun o => (num_has (blk_alloc sbu1 o)).1; have e1u1 := fun o => (num_has (blk_alloc sbu1 o)).2.1; have Bu1 : Below w.heap.size w u1 := (by first | exact Below.thenB Bu0 (by simp; omega) bu1 | exact Below.thenB Bu0 (by omega) bu1 | exact Below.thenB (Bu0.alloc (by omega) (.cells #[.bool false, .slice none 0 0] 32)) (by simp; omega) bu1 | exact Below.thenB (Bu0.alloc (by simp; omega) (.cells #[.bool false, .slice none 0 0] 32)) (by simp; omega) bu1); (first | (have s8 := (bu1.block _ (blk_lt s8)).trans s8; have q8 := num_has s8) | (have s8 : u1.heap[u0.heap.size]? = some (.cells #[.bool false, .slice none 0 0] 32) := (bu1.block u0.heap.size (by simp)).trans (MapKept.heap_alloc u0 (.cells #[.bool false, .slice none 0 0] 32)).1; have q8 := num_has s8) | skip))
        | (go_at_call 16; refine (plus_num xu0 xu1 au0 au1 nu0 cu0 nu1 cu1 _ _ _ (by first | with_reducible exact hu0u1 | with_reducible exact (hu0u1.below ((Below.refl _ _).alloc (Nat.le_refl _) (.cells #[.bool false, .slice none 0 0] 32)))) (by first | with_reducible exact hu1 | with_reducible exact (hu1.below ((Below.refl _ _).alloc (Nat.le_refl _) (.cells #[.bool false, .slice none 0 0] 32)))) (by omega) (by omega)).mono ?_; rintro e u2 ⟨xu2, au2, nu2, cu2, rfl, hu2, bu2, hqu2⟩; clear hqu2; have lu2 := num_small60 hu2 (by omega) (by omega); have zu2 := bu2.size; (try simp at zu2); have sbu2 : u2.heap[g3]? = some (.cells #[.bool xl, .slice al nl cl] 32) := (by first | exact (bu2.block _ (blk_lt sbu1)).trans sbu1 | exact (bu2.block _ (blk_lt (blk_alloc sbu1 _))).trans (blk_alloc sbu1 _)); have hpu2 : NumP u2 xl al nl cl (m) := (by first | exact hpu1.below bu2 | exact (hpu1.below ((Below.refl _ _).alloc (Nat.le_refl _) (.cells #[.bool false, .slice none 0 0] 32))).below bu2); have hVg8u2 : NumVar u2 g8 (m + b) := (by first | exact hVg8u1.below bu2 | exact (hVg8u1.alloc (.cells #[.bool false, .slice none 0 0] 32)).below bu2); have hu0u2 : NumP u2 xu0 au0 nu0 cu0 (a) := (by first | exact hu0u1.below bu2 | exact (hu0u1.below ((Below.refl _ _).alloc (Nat.le_refl _) (.cells #[.bool false, .slice none 0 0] 32))).below bu2); have hu1u2 : NumP u2 xu1 au1 nu1 cu1 (-(m)) := (by first | exact hu1.below bu2 | exact (hu1.below ((Below.refl _ _).alloc (Nat.le_refl _) (.cells #[.bool false, .slice none 0 0] 32))).below bu2); obtain ⟨c0u2, c1u2, _, _⟩ := num_has sbu2; have e0u2 := fun o => (num_has (blk_alloc sbu2 o)).1; have e1u2 := fun o => (num_has (blk_alloc sbu2 o)).2.1; have Bu2 : Below w.heap.size w u2 := (by first | exact Below.thenB Bu1 (by simp; omega) bu2 | exact Below.thenB Bu1 (by omega) bu2 | exact Below.thenB (Bu1.alloc (by omega) (.cells #[.bool false, .slice none 0 0] 32)) (by simp; omega) bu2 | exact Below.thenB (Bu1.alloc (by simp; omega) (.cells #[.bool false, .slice none 0 0] 32)) (by simp; omega) bu2); (first | (have s8 := (bu2.block _ (blk_lt s8)).trans s8; have q8 := num_has s8) | (have s8 : u2.heap[u1.heap.size]? = some (.cells #[.bool false, .slice none 0 0] 32) := (bu2.block u1.heap.size (by simp)).trans (MapKept.heap_alloc u1 (.cells #[.bool false, .slice none 0 0] 32)).1; have q8 := num_has s8) | skip)))
    all_goals (go_wp2_with fail; go_meet)
    all_goals first
      | exact ⟨_, rfl, NumVar.stored s8 hu2, NumVar.store (hVg8u2) (by omega) s8 , NumVar.store ((⟨xl, al, nl, cl, sbu2, hpu2⟩ : NumVar u2 g3 _)) (by omega) s8, by omega, (Bu2.setCell (by simp; omega) _).setCell (by simp; omega) _⟩
      | exact ⟨_, rfl, NumVar.new hu2, NumVar.alloc (hVg8u2) _ , NumVar.alloc ((⟨xl, al, nl, cl, sbu2, hpu2⟩ : NumVar u2 g3 _)) _, by omega, Bu2.alloc (by omega) _⟩
  case rest =>
  obtain ⟨g9, rfl, hVg9, hVg8, hVg3, hge9, hBc⟩ := hcut
  clear hBW hBWd zB sl hl
  obtain ⟨xh, ah, nh, ch, sh, hh⟩ := num_is hVg8
  have lh2 := num_small60 hh (by omega) (by omega)
  have hBW := hBc
  have zB := hBW.size
  have hBWd := hBW.drew
  go_upto_region 4 with fail
  go_cut [10] (fun s8 wx => ∃ g : Nat, s8 = .pointer (some ⟨g, 0, none⟩) ∧ NumVar wx g ((m + b) + -(a)) ∧ NumVar wx g9 (a + -(m)) ∧ NumVar wx g8 (m + b) ∧ NumVar wx g3 (m) ∧ g9 ≠ g ∧ w.heap.size ≤ g ∧ Below w.heap.size w wx)
  case first =>
    have zgg8 : g8 < wc.heap.size := blk_lt sh
    have shd := blk_drew sh
    have hhd := NumP.drew hh
    have hVg9d := NumVar.drew hVg9
    have zhVg9 := hVg9.lt
    have hVg3d := NumVar.drew hVg3
    have zhVg3 := hVg3.lt
    obtain ⟨c0, c1, _, _⟩ := num_has shd
    have e0 := fun o => (num_has (blk_alloc shd o)).1
    have e1 := fun o => (num_has (blk_alloc shd o)).2.1
    have e2 := fun o => (num_has (blk_drew (blk_alloc sh o))).1
    have e3 := fun o => (num_has (blk_drew (blk_alloc sh o))).2.1
    go_region_held3 (fun w' => w'.cell? ⟨g8, 0, none⟩ = some (.bool xh) ∧ w'.cell? ⟨g8, 1, none⟩ = some (.slice ah nh ch)) (first | with_reducible exact ⟨e0 _, e1 _⟩ | with_reducible exact ⟨e2 _, e3 _⟩ | with_reducible exact ⟨c0u0, c1u0⟩ | with_reducible exact ⟨e0u0 _, e1u0 _⟩ | with_reducible exact ⟨c0u1, c1u1⟩ | with_reducible exact ⟨e0u1 _, e1u1 _⟩ | with_reducible exact ⟨c0u2, c1u2⟩ | with_reducible exact ⟨e0u2 _, e1u2 _⟩ | with_reducible exact ⟨(cell_set2 (by omega)).trans c0u2, (cell_set2 (by omega)).trans c1u2⟩ | go_keep)
      (first
        | (go_at_call 17; refine (of_any a _ ha ha').mono ?_; rintro e u0 ⟨xu0, au0, nu0, cu0, rfl, hu0, bu0, hqu0⟩; clear hqu0; have lu0 := num_small60 hu0 (by omega) (by omega); have zu0 := bu0.size; (try simp at zu0); have sbu0 : u0.heap[g8]? = some (.cells #[.bool xh, .slice ah nh ch] 32) := (by first | exact (bu0.block _ (blk_lt shd)).trans shd | exact (bu0.block _ (blk_lt (blk_alloc shd _))).trans (blk_alloc shd _) | exact (bu0.block _ (blk_lt (blk_drew (blk_alloc sh _)))).trans (blk_drew (blk_alloc sh _))); have hpu0 : NumP u0 xh ah nh ch (m + b) := (by first | exact hhd.below bu0 | exact (hhd.below ((Below.refl _ _).alloc (Nat.le_refl _) (.cells #[.bool false, .slice none 0 0] 32))).below bu0 | exact (NumP.drew (hh.below ((Below.refl _ _).alloc (Nat.le_refl _) (.cells #[.bool false, .slice none 0 0] 32)))).below bu0); have hVg9u0 : NumVar u0 g9 (a + -(m)) := (by first | exact hVg9d.below bu0 | exact (hVg9d.alloc (.cells #[.bool false, .slice none 0 0] 32)).below bu0 | exact (NumVar.drew (hVg9.alloc (.cells #[.bool false, .slice none 0 0] 32))).below bu0); have hVg3u0 : NumVar u0 g3 (m) := (by first | exact hVg3d.below bu0 | exact (hVg3d.alloc (.cells #[.bool false, .slice none 0 0] 32)).below bu0 | exact (NumVar.drew (hVg3.alloc (.cells #[.bool false, .slice none 0 0] 32))).below bu0); obtain ⟨c0u0, c1u0, _, _⟩ := num_has sbu0; have e0u0 := fun o => (num_has (blk_alloc sbu0 o)).1; have e1u0 := fun o => (num_has (blk_alloc sbu0 o)).2.1; have Bu0 : Below w.heap.size w u0 := (by first | exact Below.thenB hBWd (by simp; omega) bu0 | exact Below.thenB hBWd (by omega) bu0 | exact Below.thenB (hBWd.alloc (by omega) (.cells #[.bool false, .slice none 0 0] 32)) (by simp; omega) bu0 | exact Below.thenB (hBWd.alloc (by simp; omega) (.cells #[.bool false, .slice none 0 0] 32)) (by simp; omega) bu0 | exact Below.thenB (hBW.alloc (by omega) (.cells #[.bool false, .slice none 0 0] 32)).drew (by simp; omega) bu0); (first | (have s8 : u0.heap[wc.heap.size]? = some (.cells #[.bool false, .slice none 0 0] 32) := (bu0.block wc.heap.size (by simp)).trans (MapKept.heap_alloc wc (.cells #[.bool false, .slice none 0 0] 32)).1; have q8 := num_has s8) | skip))
        | (go_at_call 18; refine (minus_any xu0 au0 nu0 cu0 _ _ (by first | with_reducible exact hu0 | with_reducible exact (hu0.below ((Below.refl _ _).alloc (Nat.le_refl _) (.cells #[.bool false, .slice none 0 0] 32)))) (by omega)).mono ?_; rintro e u1 ⟨xu1, au1, nu1, cu1, rfl, hu1, bu1, hqu1⟩; clear hqu1; have lu1 := num_small60 hu1 (by omega) (by omega); have zu1 := bu1.size; (try simp at zu1); have sbu1 : u1.heap[g8]? = some (.cells #[.bool xh, .slice ah nh ch] 32) := (by first | exact (bu1.block _ (blk_lt sbu0)).trans sbu0 | exact (bu1.block _ (blk_lt (blk_alloc sbu0 _))).trans (blk_alloc sbu0 _)); have hpu1 : NumP u1 xh ah nh ch (m + b) := (by first | exact hpu0.below bu1 | exact (hpu0.below ((Below.refl _ _).alloc (Nat.le_refl _) (.cells #[.bool false, .slice none 0 0] 32))).below bu1); have hVg9u1 : NumVar u1 g9 (a + -(m)) := (by first | exact hVg9u0.below bu1 | exact (hVg9u0.alloc (.cells #[.bool false, .slice none 0 0] 32)).below bu1); have hVg3u1 : NumVar u1 g3 (m) := (by first | exact hVg3u0.below bu1 | exact (hVg3u0.alloc (.cells #[.bool false, .slice none 0 0] 32)).below bu1); have hu0u1 : NumP u1 xu0 au0 nu0 cu0 (a) := (by first | exact hu0.below bu1 | exact (hu0.below ((Below.refl _ _).alloc (Nat.le_refl _) (.cells #[.bool false, .slice none 0 0] 32))).below bu1); obtain ⟨c0u1, c1u1, _, _⟩ := num_has sbu1; have e0u1 := fun o => (num_has (blk_alloc sbu1 o)).1; have e1u1 := fun o => (num_has (blk_alloc sbu1 o)).2.1; have Bu1 : Below w.heap.size w u1 := (by first | exact Below.thenB Bu0 (by simp; omega) bu1 | exact Below.thenB Bu0 (by omega) bu1 | exact Below.thenB (Bu0.alloc (by omega) (.cells #[.bool false, .slice none 0 0] 32)) (by simp; omega) bu1 | exact Below.thenB (Bu0.alloc (by simp; omega) (.cells #[.bool false, .slice none 0 0] 32)) (by simp; omega) bu1); (first | (have s8 := (bu1.block _ (blk_lt s8)).trans s8; have q8 := num_has s8) | (have s8 : u1.heap[u0.heap.size]? = some (.cells #[.bool false, .slice none 0 0] 32) := (bu1.block u0.heap.size (by simp)).trans (MapKept.heap_alloc u0 (.cells #[.bool false, .slice none 0 0] 32)).1; have q8 := num_has s8) | skip))
        | (go_at_call 16; refine (plus_num xh xu1 ah au1 nh ch nu1 cu1 _ _ _ (by first | with_reducible exact hpu1 | with_reducible exact (hpu1.below ((Below.refl _ _).alloc (Nat.le_refl _) (.cells #[.bool false, .slice none 0 0] 32)))) (by first | with_reducible exact hu1 | with_reducible exact (hu1.below ((Below.refl _ _).alloc (Nat.le_refl _) (.cells #[.bool false, .slice none 0 0] 32)))) (by omega) (by omega)).mono ?_; rintro e u2 ⟨xu2, au2, nu2, cu2, rfl, hu2, bu2, hqu2⟩; clear hqu2; have lu2 := num_small60 hu2 (by omega) (by omega); have zu2 := bu2.size; (try simp at zu2); have sbu2 : u2.heap[g8]? = some (.cells #[.bool xh, .slice ah nh ch] 32) := (by first | exact (bu2.block _ (blk_lt sbu1)).trans sbu1 | exact (bu2.block _ (blk_lt (blk_alloc sbu1 _))).trans (blk_alloc sbu1 _)); have hpu2 : NumP u2 xh ah nh ch (m + b) := (by first | exact hpu1.below bu2 | exact (hpu1.below ((Below.refl _ _).alloc (Nat.le_refl _) (.cells #[.bool false, .slice none 0 0] 32))).below bu2); have hVg9u2 : NumVar u2 g9 (a + -(m)) := (by first | exact hVg9u1.below bu2 | exact (hVg9u1.alloc (.cells #[.bool false, .slice none 0 0] 32)).below bu2); have hVg3u2 : NumVar u2 g3 (m) := (by first | exact hVg3u1.below bu2 | exact (hVg3u1.alloc (.cells #[.bool false, .slice none 0 0] 32)).below bu2); have hu0u2 : NumP u2 xu0 au0 nu0 cu0 (a) := (by first | exact hu0u1.below bu2 | exact (hu0u1.below ((Below.refl _ _).alloc (Nat.le_refl _) (.cells #[.bool false, .slice none 0 0] 32))).below bu2); have hu1u2 : NumP u2 xu1 au1 nu1 cu1 (-(a)) := (by first | exact hu1.below bu2 | exact (hu1.below ((Below.refl _ _).alloc (Nat.le_refl _) (.cells #[.bool false, .slice none 0 0] 32))).below bu2); obtain ⟨c0u2, c1u2, _, _⟩ := num_has sbu2; have e0u2 := fun o => (num_has (blk_alloc sbu2 o)).1; have e1u2 := fun o => (num_has (blk_alloc sbu2 o)).2.1; have Bu2 : Below w.heap.size w u2 := (by first | exact Below.thenB Bu1 (by simp; omega) bu2 | exact Below.thenB Bu1 (by omega) bu2 | exact Below.thenB (Bu1.alloc (by omega) (.cells #[.bool false, .slice none 0 0] 32)) (by simp; omega) bu2 | exact Below.thenB (Bu1.alloc (by simp; omega) (.cells #[.bool false, .slice none 0 0] 32)) (by simp; omega) bu2); (first | (have s8 := (bu2.block _ (blk_lt s8)).trans s8; have q8 := num_has s8) | (have s8 : u2.heap[u1.heap.size]? = some (.cells #[.bool false, .slice none 0 0] 32) := (bu2.block u1.heap.size (by simp)).trans (MapKept.heap_alloc u1 (.cells #[.bool false, .slice none 0 0] 32)).1; have q8 := num_has s8) | skip)))
    all_goals (go_wp2_with fail; go_meet)
    all_goals first
      | exact ⟨_, rfl, NumVar.stored s8 hu2, NumVar.store (hVg9u2) (by omega) s8 , NumVar.store ((⟨xh, ah, nh, ch, sbu2, hpu2⟩ : NumVar u2 g8 _)) (by omega) s8 , NumVar.store (hVg3u2) (by omega) s8, by omega, by omega, (Bu2.setCell (by simp; omega) _).setCell (by simp; omega) _⟩
      | exact ⟨_, rfl, NumVar.new hu2, NumVar.alloc (hVg9u2) _ , NumVar.alloc ((⟨xh, ah, nh, ch, sbu2, hpu2⟩ : NumVar u2 g8 _)) _ , NumVar.alloc (hVg3u2) _, by omega, by omega, Bu2.alloc (by omega) _⟩
  case rest =>
  obtain ⟨gA, rfl, hVgA, hVg9, hVg8, hVg3, hne9, hgeA, hBc⟩ := hcut
  clear hBW hBWd zB sh hh
  obtain ⟨x9, a9, n9, c9, s9, h9⟩ := num_is hVg9
  obtain ⟨xA, aA, nA, cA, sA, hA⟩ := num_is hVgA
  have l9 := num_small60 h9 (by omega) (by omega)
  have lA := num_small60 hA (by omega) (by omega)
  have hne : gA ≠ g9 := fun e => hne9 e.symm
  obtain ⟨p0, p1, p2, p3⟩ := num_has s9
  obtain ⟨q0, q1, q2, q3⟩ := num_has sA
  have hBz := hBc.size
  have hf := HF.out
  by_cases hbn : b < 0
  · rw [if_pos hbn] at hf
    obtain ⟨f1, f2⟩ := of_decide_eq_true hf
    have d0 : decide (b < 0) = true := by simpa using hbn
    go_wp2_with fail
    refine (minus_any x9 a9 n9 c9 _ _ h9 (by omega)).mono ?_
    rintro e v1 ⟨y1, b1, k1, e1, rfl, i1, j1, hq1⟩
    clear hq1
    have s9' := (j1.block _ (blk_lt s9)).trans s9
    have sA' := (j1.block _ (blk_lt sA)).trans sA
    have hA' := hA.below j1
    obtain ⟨p0, p1, p2, p3⟩ := num_has s9'
    obtain ⟨r1, r2⟩ := num_set s9' i1
    have sA2 := blk_set (u := .slice b1 k1 e1) (i := 1) (blk_set (u := .bool y1) (i := 0) sA' hne) hne
    have hA2 := NumVar.store (x := y1) (a := b1) (n := k1) (c := e1) (⟨_, _, _, _, sA', hA'⟩ : NumVar v1 gA _) hne s9'
    obtain ⟨xB, aB, nB, cB, sB, hB⟩ := num_is hA2
    have lB := num_small60 hB (by omega) (by omega)
    obtain ⟨t0, t1, t2, t3⟩ := num_has sB
    go_wp2_with fail
    refine (minus_any xB aB nB cB _ _ hB (by omega)).mono ?_
    rintro e v2 ⟨y2, b2, k2, e2, rfl, i2, j2, hq2⟩
    have sB' := (j2.block _ (blk_lt sB)).trans sB
    have s9b := (j2.block _ (blk_lt r2)).trans r2
    obtain ⟨t0, t1, t2, t3⟩ := num_has sB'
    have hne' : g9 ≠ gA := hne9
    have s9c := blk_set (u := .slice b2 k2 e2) (i := 1) (blk_set (u := .bool y2) (i := 0) s9b hne') hne'
    obtain ⟨_, sBc⟩ := num_set sB' i2
    obtain ⟨w0, w1', w2', w3'⟩ := num_has s9b
    obtain ⟨z0, z1, z2, z3⟩ := num_has sBc
    have g1 : y1 = false := by rw [i1.1]; simp; omega
    have g2 : y2 = false := by rw [i2.1]; simp; omega
    have g3' : 0 < k2 := num_pos i2 (by omega)
    have g4 : decide ((0 : Int) < (k2 : Int)) = true := by simpa using g3'
    have hk2 := num_small60 i2 (by omega) (by omega)
    subst g1 g2
    have hz1 := j1.size
    have hz2 := j2.size
    have hz9 := blk_lt s9
    have hzA := blk_lt sA
    simp only [World.size_setCell] at hz2
    have hfin : Below w.heap.size w v2 := Below.thenB (((Below.thenB hBc hBz j1).setCell (by exact hge9) _).setCell (by exact hge9) _) (by simp; omega) j2
    go_wp2
    go_ret
    exact ⟨rfl, (hfin.setCell (by exact hgeA) _).setCell (by exact hgeA) _⟩
  · rw [if_neg hbn] at hf
    obtain ⟨f1, f2⟩ := of_decide_eq_true hf
    have d0 : decide (b < 0) = false := by simp; omega
    have g1 : x9 = false := by rw [h9.1]; simp; omega
    have g2 : xA = false := by rw [hA.1]; simp; omega
    have g3' : 0 < nA := num_pos hA (by omega)
    have g4 : decide ((0 : Int) < (nA : Int)) = true := by simpa using g3'
    subst g1 g2
    go_wp2
    go_ret
    exact ⟨rfl, hBc⟩
end Go.Proofs.Ytaipkmgpjkbapaa
