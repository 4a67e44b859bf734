/- A disk that was made since a world: its contracts, where nothing else need stay. -/
import Derived.Test.YtmepanbfknmieaaDisk20
namespace Go.Proofs.Ytmepanbfknmieaa
open Go.RowKit Go.Maps
/-- At b there is a disk as M, all of it made since w0; what was there then is as it was. -/
def DB (w0 w : World) (b : Nat) (M : DM) : Prop := (∃ S, DskAt w b S M ∧ ∀ g, S g → w0.heap.size ≤ g) ∧ Below w0.heap.size w0 w
theorem chg_below {S : Nat → Prop} {w0 w w' : World} (h : Below w0.heap.size w0 w) (hS : ∀ g, S g → w0.heap.size ≤ g) (hc : Chg S w w') : Below w0.heap.size w0 w' := by
  have hz := h.size
  exact ⟨hc.os.trans h.os, hc.tape.trans h.tape, hc.output.trans h.output, by have := hc.size; omega, fun k hk => (hc.block k (by omega) (fun s => by have := hS k s; omega)).trans (h.block k hk)⟩
theorem DB.below {w0 w w' : World} {b : Nat} {M : DM} (h : DB w0 w b M) (hb : Below w.heap.size w w') : DB w0 w' b M := by
  obtain ⟨⟨S, h1, h2⟩, h3⟩ := h
  exact ⟨⟨S, h1.below hb, h2⟩, Below.thenB h3 h3.size hb⟩
theorem DB.out {w0 w w' : World} {b : Nat} {S : Nat → Prop} {M' : DM} (hb : Below w0.heap.size w0 w) (hS : ∀ g, S g → w0.heap.size ≤ g) (h : DOut w w' b S M') : DB w0 w' b M' := by
  refine ⟨⟨_, h.1, ?_⟩, chg_below hb hS h.2⟩
  rintro g (hg | hg)
  · exact hS g hg
  · have := hb.size; omega
theorem many_texts (w : World) (cs : Array Value) (ss : List ByteArray) (hcs : cs.toList = ss.map Value.string) : Texts (w.alloc (.cells cs 9)) (some ⟨w.heap.size, 0, none⟩) ss := by
  cases ss with
  | nil => exact .inl rfl
  | cons x r =>
    refine .inr ⟨by simp, w.heap.size, 0, rfl, by simp, fun i s hi => ?_⟩
    have hb : (w.alloc (.cells cs 9)).heap[w.heap.size]? = some (.cells cs 9 (0, 0)) := Array.getElem?_push_size
    rw [Lib.cell_of_heap hb, Nat.zero_add, ← Array.getElem?_toList, hcs, List.getElem?_map, hi]
    rfl
theorem db_append {w0 w : World} {b : Nat} {M : DM} (h : DB w0 w b M) (s : ByteArray) (hs : s.size ≤ 281474976710656) (cs : Array Value) (ss : List ByteArray) (n : Nat) (hn : ss.length = n) (hn1 : n ≤ 1048576) (hcs : cs.toList = ss.map Value.string) (hsz : ∀ x ∈ ss, x.size ≤ 1073741824) :
    Calls Try.prog 20 #[.pointer (some ⟨b, 0, none⟩), .string s, .slice (some ⟨w.heap.size, 0, none⟩) n n] (w.alloc (.cells cs 9)) fun e w' => e = .returned (.int .i64 (appM M s (joinB ss)).2) ∧ DB w0 w' b (appM M s (joinB ss)).1 := by
  have hA : Below w.heap.size w (w.alloc (.cells cs 9)) := (Below.refl _ _).alloc (Nat.le_refl _) _
  obtain ⟨⟨S, ⟨mb, L, hd⟩, h2⟩, h3⟩ := h
  have hlt := hd.lt
  refine ((hd.below hA).append s hs _ n n ss hn hn1 hsz (many_texts w cs ss hcs) ?_).mono ?_
  · rintro _ x hx hS
    injection hx with hx
    subst hx
    have := hlt _ hS
    exact absurd this (Nat.lt_irrefl _)
  · rintro e w' ⟨rfl, ho⟩
    exact ⟨rfl, DB.out (Below.thenB h3 h3.size hA) h2 ho⟩
theorem db_sync {w0 w : World} {b : Nat} {M : DM} (h : DB w0 w b M) (cs : Array Value) (ss : List ByteArray) (n : Nat) (hn : ss.length = n) (hn1 : n ≤ 1048576) (hcs : cs.toList = ss.map Value.string) (hsz : ∀ x ∈ ss, x.size ≤ 281474976710656) :
    Calls Try.prog 23 #[.pointer (some ⟨b, 0, none⟩), .slice (some ⟨w.heap.size, 0, none⟩) n n] (w.alloc (.cells cs 9)) fun e w' => e = .returned (.int .i64 (syncM M ss).2) ∧ DB w0 w' b (syncM M ss).1 := by
  have hA : Below w.heap.size w (w.alloc (.cells cs 9)) := (Below.refl _ _).alloc (Nat.le_refl _) _
  obtain ⟨⟨S, ⟨mb, L, hd⟩, h2⟩, h3⟩ := h
  have hlt := hd.lt
  refine ((hd.below hA).sync _ n n ss hn hn1 hsz (many_texts w cs ss hcs) ?_).mono ?_
  · rintro _ x hx hS
    injection hx with hx
    subst hx
    have := hlt _ hS
    exact absurd this (Nat.lt_irrefl _)
  · rintro e w' ⟨rfl, ho⟩
    exact ⟨rfl, DB.out (Below.thenB h3 h3.size hA) h2 ho⟩
theorem db_crash1 {w0 w : World} {b : Nat} {M : DM} (h : DB w0 w b M) (z : Int) (hz : -9223372036854775808 ≤ z ∧ z ≤ 9223372036854775807) :
    Calls Try.prog 24 #[.pointer (some ⟨b, 0, none⟩), .slice (some ⟨w.heap.size, 0, none⟩) 1 1] (w.alloc (.cells #[.int .i64 z] 3)) fun e w' => e = .returned (.tuple #[]) ∧ DB w0 w' b (crashM M [z]) := by
  have hA : Below w.heap.size w (w.alloc (.cells #[.int .i64 z] 3)) := (Below.refl _ _).alloc (Nat.le_refl _) _
  obtain ⟨⟨S, ⟨mb, L, hd⟩, h2⟩, h3⟩ := h
  have hlt := hd.lt
  have hb : (w.alloc (.cells #[.int .i64 z] 3)).heap[w.heap.size]? = some (.cells #[.int .i64 z] 3 (0, 0)) := Array.getElem?_push_size
  refine ((hd.below hA).crash _ 1 1 [z] rfl (by omega) (.inr ⟨by simp, w.heap.size, 0, rfl, by simp, fun i hi => ?_⟩) (fun y hy => by simp at hy; subst hy; exact hz) ?_).mono ?_
  · simp only [List.length_singleton] at hi
    obtain rfl : i = 0 := by omega
    exact Lib.cell_of_heap hb 0
  · rintro _ x hx hS
    injection hx with hx
    subst hx
    have := hlt _ hS
    exact absurd this (Nat.lt_irrefl _)
  · rintro e w' ⟨rfl, ho⟩
    exact ⟨rfl, DB.out (Below.thenB h3 h3.size hA) h2 ho⟩
theorem db_read {w0 w : World} {b : Nat} {M : DM} (h : DB w0 w b M) (s : ByteArray) (hs : s.size ≤ maxLen) :
    Calls Try.prog 25 #[.pointer (some ⟨b, 0, none⟩), .string s] w fun e w' => e = .returned (.tuple #[.string ⟨(readM M s.data.toList).1.toArray⟩, .int .i64 (readM M s.data.toList).2]) ∧ DB w0 w' b M := by
  obtain ⟨⟨S, ⟨mb, L, hd⟩, h2⟩, h3⟩ := id h
  refine (hd.read s hs).mono ?_
  rintro e w' ⟨rfl, hb⟩
  exact ⟨rfl, h.below hb⟩
theorem db_new (r : Int) (h0 : 0 ≤ r) (h1 : r ≤ 16777216) (w : World) :
    Calls Try.prog 10 #[.int .i64 r] w fun e w' => e = .returned (.pointer (some ⟨w.heap.size, 0, none⟩)) ∧ DB w w' w.heap.size ⟨true, 0, false, 0, r, []⟩ := by
  refine (New_some r h0 h1 w).mono ?_
  rintro e w' ⟨rfl, hd, hb⟩
  refine ⟨rfl, ⟨(· = w.heap.size), ⟨none, [], ⟨hd, .inl ⟨rfl, rfl⟩, rfl, ⟨List.Pairwise.nil, Nat.zero_le _, fun p hp => (by cases hp), h0, h1⟩, fun p hp => (by cases hp), fun p hp => (by cases hp), rfl, fun k hk => (by cases hk), fun p hp => (by cases hp), fun k hk => (by rw [hk]; exact hd.lt)⟩⟩, fun g hg => Nat.le_of_eq hg.symm⟩, hb⟩
theorem DB.bel {w0 w : World} {b : Nat} {M : DM} (h : DB w0 w b M) : Below w0.heap.size w0 w := h.2
/-! ### a disk of one file -/
theorem one_get {β : Type} (k : List UInt8) (x : β) : fget [(k, x)] k = some x := by simp [fget]
theorem one_put {β : Type} (k : List UInt8) (x y : β) : fput [(k, x)] k y = [(k, y)] := by simp [fput, fdel, fins]
theorem appM_eq {M : DM} {s : ByteArray} {news : List UInt8} {y : MF} (ha : askM M [s] = 0) (hy : (fget M.files s.data.toList).getD ([], 0) = y) (hr : refusesM M.files M.room s.data.toList (((y.1.length + news.length : Nat)) : Int) = 0) :
    appM M s news = ({ (useM M).1 with files := fput M.files s.data.toList (y.1 ++ news, y.2) }, 0) := by
  subst hy
  unfold appM
  rw [if_pos ha]
  exact if_pos hr
theorem app0 (u r : Int) (s : ByteArray) (news : List UInt8) (hs : mayB s = true) (h1 : news.length ≤ 1048576) (h2 : (news.length : Int) ≤ r) :
    appM ⟨true, u, false, 0, r, []⟩ s news = (⟨true, wrap64 (u + 1), false, 0, r, [(s.data.toList, (news, 0))]⟩, 0) := by
  have hu : useM ⟨true, u, false, 0, r, []⟩ = (⟨true, wrap64 (u + 1), false, 0, r, []⟩, true) := rfl
  have ha : askM ⟨true, u, false, 0, r, []⟩ [s] = 0 := by
    unfold askM
    rw [hu]
    simp [hs]
  have hr : refusesM [] r s.data.toList (((0 + news.length : Nat)) : Int) = 0 := by
    unfold refusesM
    rw [if_neg (by simp; omega), if_neg (by simp [totF, totV, fget, flenM]; omega)]
  rw [appM_eq ha (y := ([], 0)) rfl hr, hu]
  rfl
theorem app1 (u r : Int) (s : ByteArray) (d news : List UInt8) (p : Nat) (hs : mayB s = true) (h1 : d.length + news.length ≤ 1048576) (h2 : ((d.length + news.length : Nat) : Int) ≤ r) :
    appM ⟨true, u, false, 0, r, [(s.data.toList, (d, p))]⟩ s news = (⟨true, wrap64 (u + 1), false, 0, r, [(s.data.toList, (d ++ news, p))]⟩, 0) := by
  have hu : useM ⟨true, u, false, 0, r, [(s.data.toList, (d, p))]⟩ = (⟨true, wrap64 (u + 1), false, 0, r, [(s.data.toList, (d, p))]⟩, true) := rfl
  have ha : askM ⟨true, u, false, 0, r, [(s.data.toList, (d, p))]⟩ [s] = 0 := by
    unfold askM
    rw [hu]
    simp [hs]
  have hr : refusesM [(s.data.toList, (d, p))] r s.data.toList (((d.length + news.length : Nat)) : Int) = 0 := by
    unfold refusesM
    rw [one_get]
    rw [if_neg (by simp; omega), if_neg (by simp [totF, totV, flenM]; omega)]
  rw [appM_eq ha (y := (d, p)) (by simp [one_get]) hr, hu]
  simp [one_put]
theorem syn1 (u r : Int) (s : ByteArray) (d : List UInt8) (p : Nat) (hs : mayB s = true) :
    syncM ⟨true, u, false, 0, r, [(s.data.toList, (d, p))]⟩ [s] = (⟨true, wrap64 (u + 1), false, 0, r, [(s.data.toList, (d, d.length))]⟩, 0) := by
  have hu : useM ⟨true, u, false, 0, r, [(s.data.toList, (d, p))]⟩ = (⟨true, wrap64 (u + 1), false, 0, r, [(s.data.toList, (d, p))]⟩, true) := rfl
  have ha : askM ⟨true, u, false, 0, r, [(s.data.toList, (d, p))]⟩ [s] = 0 := by
    unfold askM
    rw [hu]
    simp [hs]
  have hq : askOfM ⟨true, u, false, 0, r, [(s.data.toList, (d, p))]⟩ [s] = 0 := by
    unfold askOfM
    rw [ha, if_pos rfl]
    simp [one_get]
  unfold syncM
  rw [hq, if_pos rfl, hu]
  simp [syncF, sync1, one_get, one_put]
theorem read1 (u r : Int) (k d : List UInt8) (p : Nat) : readM ⟨true, u, false, 0, r, [(k, (d, p))]⟩ k = (d, 0) := by
  unfold readM
  simp [one_get]
theorem cra1 (u r z : Int) (k d : List UInt8) (p : Nat) : crashM ⟨true, u, false, 0, r, [(k, (d, p))]⟩ [z] = ⟨true, u, false, 0, r, [(k, (d.take (keepN d.length p z), keepN d.length p z))]⟩ := rfl
end Go.Proofs.Ytmepanbfknmieaa
