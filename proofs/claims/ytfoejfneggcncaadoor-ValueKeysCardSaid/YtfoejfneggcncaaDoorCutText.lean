/- Contract of cutText: a text out of a key. -/
import Derived.Test.YtfoejfneggcncaaDoorBuild
import Derived.Test.YtfoejfneggcncaaDoorUnesc
import Derived.Test.YtfoejfneggcncaaDoorVParse
import Derived.Lib.BufferMore
namespace Go.Proofs.YtfoejfneggcncaaDoor
open Go.RowKit
/-- What cutText answers. -/
def cret (o : Option (List UInt8 × List UInt8)) : Ending := match o with
  | some p => .returned (.tuple #[.agg #[.int .i64 2, .int .i64 0, .string ⟨p.1.toArray⟩], .string ⟨p.2.toArray⟩, .bool true])
  | none => .returned (.tuple #[.agg #[.int .i64 0, .int .i64 0, .string ⟨#[]⟩], .string ⟨#[]⟩, .bool false])
theorem ba_size (l : List UInt8) : (⟨l.toArray⟩ : ByteArray).size = l.length := by show l.toArray.size = _; simp
theorem val_has {w : World} {b : Nat} {x y z : Value} {T : Nat} (h : w.heap[b]? = some (.cells #[x, y, z] T (0, 0))) : (w.cell? ⟨b, 0, none⟩ = some x ∧ w.cell? ⟨b, 1, none⟩ = some y ∧ w.cell? ⟨b, 2, none⟩ = some z) ∧ w.frozen? ⟨b, 0, none⟩ = false ∧ w.frozen? ⟨b, 1, none⟩ = false ∧ w.frozen? ⟨b, 2, none⟩ = false :=
  ⟨⟨Lib.cell_of_heap h 0, Lib.cell_of_heap h 1, Lib.cell_of_heap h 2⟩, Lib.frozen_of_heap h 0, Lib.frozen_of_heap h 1, Lib.frozen_of_heap h 2⟩
theorem chg3 {B : Nat} {a w : World} (h : Below B a w) (x y z : Value) : Below B a (((w.setCell ⟨B, 0, none⟩ x).setCell ⟨B, 1, none⟩ y).setCell ⟨B, 2, none⟩ z) :=
  ((h.setCell (p := ⟨B, 0, none⟩) (Nat.le_refl _) _).setCell (p := ⟨B, 1, none⟩) (Nat.le_refl _) _).setCell (p := ⟨B, 2, none⟩) (Nat.le_refl _) _
theorem val_set {w : World} {b : Nat} {x y z : Value} {T : Nat} (h : w.heap[b]? = some (.cells #[x, y, z] T (0, 0))) (u v q : Value) : (((w.setCell ⟨b, 0, none⟩ u).setCell ⟨b, 1, none⟩ v).setCell ⟨b, 2, none⟩ q).heap[b]? = some (.cells #[u, v, q] T (0, 0)) := by
  have h1 := Lib.heap_setCell_same (i := 0) h u
  have h2 := Lib.heap_setCell_same (i := 1) h1 v
  have h3 := Lib.heap_setCell_same (i := 2) h2 q
  exact h3
theorem ex1 {rb : ByteArray} {d : UInt8} {t : List UInt8} (h : rb = ⟨(d :: t).toArray⟩) : rb.extract 1 rb.size = ⟨t.toArray⟩ := by
  refine ba_eq _ _ ?_
  subst h
  simp [ba_size]
theorem rb0 {rb : ByteArray} {d : UInt8} {t : List UInt8} (h : rb = ⟨(d :: t).toArray⟩) (h0 : 0 < rb.size) : rb[0] = d := by subst h; rfl
/-- strings.Cut at the byte 00, of bytes. -/
theorem cut_c (x : List UInt8) (w : World) (hs : x.length ≤ 100000) (hm : IntCell w 1) :
    Calls Tryd.prog 58 #[.string ⟨x.toArray⟩, .string ⟨#[0]⟩] w fun e w' => e = .returned (.tuple #[.string ⟨(Lib.cut x [0]).1.toArray⟩, .string ⟨(Lib.cut x [0]).2.1.toArray⟩, .bool (Lib.cut x [0]).2.2]) ∧ ∃ n, w' = w.drewN n := by
  obtain ⟨_, m, hm⟩ := hm
  have h := Tryd.strings_Cut ⟨x.toArray⟩ ⟨#[0]⟩ m w (by rw [ba_size]; omega) hm
  simpa using h
set_option maxRecDepth 100000 in
set_option maxHeartbeats 4000000 in
theorem cuttext_any (s : ByteArray) (hs : s.size ≤ 100000) (w : World) (hmx : IntCell w 1) :
    Calls Tryd.prog 48 #[.string s] w fun e w' => e = cret (unesc s.data.toList) ∧ Below w.heap.size w w' := by
  obtain ⟨R, hR⟩ : ∃ R, R = unesc s.data.toList := ⟨_, rfl⟩
  rw [← hR]
  have hR0 : Hid (R = (unesc s.data.toList).map fun p => ([] ++ p.1, p.2)) := by
    rw [hR]; cases unesc s.data.toList <;> simp [Hid]
  have hlen0 : ([] : List UInt8).length + s.data.toList.length ≤ 100000 := by rw [← Lib.size_eq]; simpa using hs
  have HM := Lib.hid hmx
  clear hR hmx
  go_enter Tryd.func48, Tryd.ntmps48
  go_wp2
  obtain ⟨W0, hW0⟩ : ∃ W0, W0 = ((w.alloc (.cells #[.int .i64 0, .int .i64 0, .string ⟨#[]⟩] 54)).alloc (.cells #[.pointer none, .slice none 0 0] 78)) := ⟨_, rfl⟩
  have hA2 : Below w.heap.size w W0 := by rw [hW0]; exact ((Below.refl _ _).alloc (Nat.le_refl _) _).alloc (by simp) _
  have hz0 : W0.heap.size = w.heap.size + 2 := by rw [hW0]; simp
  have hbA : W0.heap[w.heap.size]? = some (.cells #[.int .i64 0, .int .i64 0, .string ⟨#[]⟩] 54 (0, 0)) := by
    rw [hW0, Below.heap_alloc _ _ w.heap.size (by simp)]; exact Array.getElem?_push_size
  have hsb0 : SB (w.heap.size + 1) (w.heap.size + 1) [] W0 := by
    rw [hW0]
    have := Lib.fresh_isBuilder 78 5 (w.alloc (.cells #[.int .i64 0, .int .i64 0, .string ⟨#[]⟩] 54))
    have e : (w.alloc (.cells #[.int .i64 0, .int .i64 0, .string ⟨#[]⟩] 54)).heap.size = w.heap.size + 1 := by simp
    rw [e] at this
    exact this
  rw [← hW0]
  clear hW0
  have HBA := Lib.hid hbA
  clear hbA
  go_loopw [0] (fun i wr => ∃ x acc : List UInt8, i = .string ⟨x.toArray⟩ ∧ acc.length + x.length ≤ 100000 ∧ Hid (R = (unesc x).map fun p => (acc ++ p.1, p.2)) ∧ SB (w.heap.size + 1) (w.heap.size + 1) acc wr ∧ Below (w.heap.size + 1) W0 wr) (fun i _ => match i with | .string s => s.size | _ => 0)
  case atStart =>
    exact ⟨s.data.toList, [], congrArg Value.string (ba_eq s _ rfl), hlen0, hR0, hsb0, Below.refl _ _⟩
  case round =>
    obtain ⟨x, acc, rfl, hlen, hR, hsb, hbel⟩ := hrel
    have hszr := hbel.size
    rw [hz0] at hszr
    have hbw : Below w.heap.size w wr := hA2.trans (hbel.mono (Nat.le_succ _))
    have hblk : wr.heap[w.heap.size]? = some (.cells #[.int .i64 0, .int .i64 0, .string ⟨#[]⟩] 54 (0, 0)) := (hbel.block _ (by omega)).trans HBA.out
    have hmr : IntCell wr 1 := HM.out.below hbw
    have HSB := Lib.hid hsb
    have HBK := Lib.hid hblk
    have HMR := Lib.hid hmr
    clear hsb hblk hmr
    go_wp2_with fail
    refine (cut_c x _ (by omega) HMR.out).mono ?_
    rintro e w1 ⟨rfl, n, rfl⟩
    rcases cut_zero x with ⟨h1, h2⟩ | ⟨p, r, h1, h2, h3⟩
    · rw [h1]; dsimp only
      have hRn : R = none := by rw [hR.out, h2]; rfl
      obtain ⟨⟨c0, c1, c2⟩, f0, f1, f2⟩ := val_has (show (wr.drewN n).heap[w.heap.size]? = _ from HBK.out)
      clear h1 h2
      have hs5 := val_set (show (wr.drewN n).heap[w.heap.size]? = _ from HBK.out) (.int .i64 0) (.int .i64 0) (.string ⟨#[]⟩)
      have hb5 := chg3 (bdrewN hbw n) (.int .i64 0) (.int .i64 0) (.string ⟨#[]⟩)
      go_wp2
      generalize ((((wr.drewN n).setCell ⟨w.heap.size, 0, none⟩ (.int .i64 0)).setCell ⟨w.heap.size, 1, none⟩ (.int .i64 0)).setCell ⟨w.heap.size, 2, none⟩ (.string ⟨#[]⟩)) = w5 at hs5 hb5 ⊢
      obtain ⟨⟨c0', c1', c2'⟩, _⟩ := val_has hs5
      simp [bodyPost, results, Tryd.results48, go_sem, hRn, cret, c0', c1', c2']
      exact hb5
    · rw [h2]; dsimp only
      have hxle : x.length = p.length + (r.length + 1) := by rw [h1]; simp
      have hpl : acc.length + p.length + (r.length + 1) ≤ 100000 := by omega
      clear hxle
      rcases r with _ | ⟨d, t⟩
      · have hRn : R = none := by rw [hR.out, h3]; rfl
        clear h1 h2 h3
        obtain ⟨⟨c0, c1, c2⟩, f0, f1, f2⟩ := val_has (show (wr.drewN n).heap[w.heap.size]? = _ from HBK.out)
        have hs5 := val_set (show (wr.drewN n).heap[w.heap.size]? = _ from HBK.out) (.int .i64 0) (.int .i64 0) (.string ⟨#[]⟩)
        have hb5 := chg3 (bdrewN hbw n) (.int .i64 0) (.int .i64 0) (.string ⟨#[]⟩)
        go_wp2
        generalize ((((wr.drewN n).setCell ⟨w.heap.size, 0, none⟩ (.int .i64 0)).setCell ⟨w.heap.size, 1, none⟩ (.int .i64 0)).setCell ⟨w.heap.size, 2, none⟩ (.string ⟨#[]⟩)) = w5 at hs5 hb5 ⊢
        obtain ⟨⟨c0', c1', c2'⟩, _⟩ := val_has hs5
        simp [bodyPost, results, Tryd.results48, go_sem, hRn, cret, c0', c1', c2']
        exact hb5
      · obtain ⟨rb, hrb⟩ : ∃ rb : ByteArray, rb = ⟨(d :: t).toArray⟩ := ⟨_, rfl⟩
        rw [← hrb]
        have hre : rb.toList.isEmpty = false := by rw [hrb]; exact ne_empty (by rw [ba_size]; simp)
        have hsb1 : SB (w.heap.size + 1) (w.heap.size + 1) acc (wr.drewN n) := HSB.out
        have HSB1 := Lib.hid hsb1
        have HRB := Lib.hid hrb
        have hxl : t.length < x.length := by rw [h1]; simp; omega
        have hR2 : R = (unesc (0 :: d :: t)).map fun q => (acc ++ p ++ q.1, q.2) := by
          rw [hR.out, h3]; cases unesc (0 :: d :: t) <;> simp
        have HR2 := Lib.hid hR2
        clear hR2
        clear hsb1 h1 h2 h3 hrb
        go_wp2_with fail
        refine (sb_string (w.heap.size + 1) (w.heap.size + 1) acc ⟨p.toArray⟩ _ HSB1.out (by rw [ba_size]; omega) (by simp; omega)).mono ?_
        rintro e w2 ⟨rfl, hsb2, hb2⟩
        have HSB2 := Lib.hid hsb2
        clear hsb2
        have h0 : 0 < rb.size := by rw [HRB.out, ba_size]; simp
        have hg : rb[0] = d := rb0 HRB.out h0
        have hblk2 : w2.heap[w.heap.size]? = some (.cells #[.int .i64 0, .int .i64 0, .string ⟨#[]⟩] 54 (0, 0)) := (hb2.block _ (by omega)).trans HBK.out
        have HBK2 := Lib.hid hblk2
        have hz2 := hb2.size
        simp at hz2
        clear hblk2
        by_cases hd1 : d = 1
        · have e1 : ((rb[0].toNat : Int) == 1) = true := by rw [hg, hd1]; rfl
          have hR1 : Hid (R = some (acc ++ p, t)) := by
            rw [HR2.out, hd1, unesc_zero]; simp [Hid]
          have hx := Lib.hid (ex1 HRB.out)
          clear hd1 hg
          go_wp2_with fail
          have hbd : Lib.IsBuilder 78 5 (w.heap.size + 1) (w.heap.size + 1) (Lib.byteCells (acc ++ p)) w2.drew := Or.inr HSB2.out
          have hcs := Tryd.Builder_String_any (w.heap.size + 1) (w.heap.size + 1) (acc ++ p) w2.drew hbd (by simp; omega)
          have HCS := Lib.hid hcs
          clear hbd hcs
          go_region_with
              (first
                | (go_at_call 54; refine HCS.out.mono ?_; rintro e w3 ⟨rfl, hb3⟩)
                | (go_at_call 29; refine (text_any _ _).mono ?_; rintro e w4 ⟨rfl, hb4⟩; have hz3 := hb3.size; have a3 := (hb3.block w.heap.size (Nat.lt_succ_self _)).trans (show w2.drew.heap[w.heap.size]? = _ from HBK2.out); have a4 := (hb4.block w.heap.size (by have : w2.heap.size ≤ w3.heap.size := hz3; omega)).trans a3; have A4 := Lib.hid a4; obtain ⟨⟨c0, c1, c2⟩, f0, f1, f2⟩ := val_has a4; clear a3 a4))
          all_goals
            have hs5 := val_set A4.out (.int .i64 2) (.int .i64 0) (.string ⟨(acc ++ p).toArray⟩)
            have hb5 := chg3 (B := w.heap.size) (Below.thenB ((((bdrewN hbw n).trans (hb2.mono (Nat.le_succ _))).drew).trans (hb3.mono (Nat.le_succ _))) (by have : w2.heap.size ≤ w3.heap.size := hz3; omega) hb4) (.int .i64 2) (.int .i64 0) (.string ⟨(acc ++ p).toArray⟩)
            go_wp2
            generalize (((w4.setCell ⟨w.heap.size, 0, none⟩ (.int .i64 2)).setCell ⟨w.heap.size, 1, none⟩ (.int .i64 0)).setCell ⟨w.heap.size, 2, none⟩ (.string ⟨(acc ++ p).toArray⟩)) = w5 at hs5 hb5 ⊢
            obtain ⟨⟨c0', c1', c2'⟩, _⟩ := val_has hs5
            have hxx := hx.out
            have hRR := hR1.out
            simp [bodyPost, results, Tryd.results48, go_sem, hRR, cret, c0', c1', c2', hxx]
            exact hb5
        · have e1 : ((rb[0].toNat : Int) == 1) = false := by
            rw [hg]; exact beq_false_of_ne (fun e => hd1 (UInt8.toNat_inj.1 (Int.ofNat_inj.1 e)))
          by_cases hd2 : d = 255
          · have e2 : ((rb[0].toNat : Int) == 255) = true := by rw [hg, hd2]; rfl
            have hRt : Hid (R = (unesc t).map fun q => (acc ++ p ++ [0] ++ q.1, q.2)) := by
              rw [HR2.out, hd2, unesc_zero]; cases hu : unesc t <;> simp [Hid, hu]
            clear hd2 hg hd1
            go_wp2_with fail
            refine (sb_byte (w.heap.size + 1) (w.heap.size + 1) (acc ++ p) 0 _ (Or.inr HSB2.out) (by simp; omega) (by omega)).mono ?_
            rintro e w3 ⟨rfl, hsb3, hb3⟩
            go_wp2_with fail
            have hx := ex1 HRB.out
            rw [hx]
            refine ⟨⟨t, acc ++ p ++ [0], rfl, by simp at hpl ⊢; omega, hRt, Or.inr hsb3, ?_⟩, ?_⟩
            · exact (bdrewN hbel n).trans (hb2.trans hb3)
            · show (⟨t.toArray⟩ : ByteArray).size < (⟨x.toArray⟩ : ByteArray).size
              rw [ba_size, ba_size]; exact hxl
          · have e2 : ((rb[0].toNat : Int) == 255) = false := by
              rw [hg]; exact beq_false_of_ne (fun e => hd2 (UInt8.toNat_inj.1 (Int.ofNat_inj.1 e)))
            have hRn : R = none := by rw [HR2.out, unesc_zero]; simp [hd1, hd2]
            clear hd2 hg hd1
            obtain ⟨⟨c0, c1, c2⟩, f0, f1, f2⟩ := val_has HBK2.out
            have hs5 := val_set HBK2.out (.int .i64 0) (.int .i64 0) (.string ⟨#[]⟩)
            have hb5 := chg3 ((bdrewN hbw n).trans (hb2.mono (Nat.le_succ _))) (.int .i64 0) (.int .i64 0) (.string ⟨#[]⟩)
            go_wp2
            generalize (((w2.setCell ⟨w.heap.size, 0, none⟩ (.int .i64 0)).setCell ⟨w.heap.size, 1, none⟩ (.int .i64 0)).setCell ⟨w.heap.size, 2, none⟩ (.string ⟨#[]⟩)) = w5 at hs5 hb5 ⊢
            obtain ⟨⟨c0', c1', c2'⟩, _⟩ := val_has hs5
            simp [bodyPost, results, Tryd.results48, go_sem, hRn, cret, c0', c1', c2']
            exact hb5
end Go.Proofs.YtfoejfneggcncaaDoor
