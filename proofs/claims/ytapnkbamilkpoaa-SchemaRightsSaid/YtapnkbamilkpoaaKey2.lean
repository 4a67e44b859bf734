/- Contracts of keys: appendKey, Key. -/
import Derived.Test.YtapnkbamilkpoaaKey
namespace Go.Proofs.Ytapnkbamilkpoaa
open Go.RowKit
/-- A right value's key. -/
def vkey (v : Val) : List UInt8 :=
  if v.1 = 1 then 1 :: be8 (v.2.1 + 9223372036854775808).toNat else if v.1 = 2 then 2 :: (esc v.2.2.data.toList ++ [0, 1]) else [3, UInt8.ofNat v.2.1.toNat]
theorem vkey_len (v : Val) : (vkey v).length ≤ 9 + 2 * v.2.2.size := by
  have := esc_len v.2.2.data.toList
  rw [← Lib.size_eq] at this
  unfold vkey
  split
  · simp [be8]
  · split
    · simp; omega
    · simp only [List.length_cons, List.length_nil]; omega
set_option maxRecDepth 100000 in
set_option maxHeartbeats 1000000 in
theorem key1 (n : Int) (h0 : -9223372036854775808 ≤ n) (h1 : n ≤ 9223372036854775807) (v : Value) (l : List UInt8) (base : Nat) (w : World)  (hl : l.length ≤ 1000000) (hb : base ≤ w.heap.size) (hown : w.ownsRow base 5 1 v l.length (u8s l)) :
    Calls Try.prog 81 #[v, .agg #[.int .i64 1, .int .i64 n, .string ⟨#[]⟩]] w (Ret8 w base v (l ++ vkey (1, n, ⟨#[]⟩))) := by
  obtain ⟨i0, hi, hz0, hz1, hz2⟩ := info_parts info_u8
  have hG0 := (Grown8.refl hown).below ((Below.refl _ w).alloc (Nat.le_refl _) (.cells #[.int .i64 1, .int .i64 n, .string ⟨#[]⟩] 55))
  have hfar : v.ownBlock ≠ some w.heap.size := fun e => by have := (hown.lt _ e).2; omega
  have hown1 := hG0.1
  have hsz : (w.alloc (.cells #[.int .i64 1, .int .i64 n, .string ⟨#[]⟩] 55)).heap.size = w.heap.size + 1 := by simp
  go_enter Try.func81, Try.ntmps81
  go_wp2_with (at_builtin; refine wpList_append_lies _ rfl (.tmp 5) (.tmp 9) 91 rfl base 5 i0 (.int .u8 0) 1 1 Try.underlying91 hi hz0 hz1 hz2 rfl (by decide) _ l.length (u8s l) rfl (hown1.alloc _) ⟨w.heap.size + 1, 0, none⟩ 1 1 [.int .u8 1] rfl rfl ?c0 ?c1 (by decide) ?c2 ?c3 ?c4 (w.heap.size + 2) ?c5 ?_)
  case c0 => exact World.news_of_block (cs := #[.int .u8 1]) (t := 5) (fr := (0, 0)) (by rw [← hsz]; exact heap_alloc_new _ _)
  case c1 => simp [Value.oneCell']
  case c2 => unfold maxLen; omega
  case c3 => omega
  case c4 => simp; omega
  case c5 => simp
  intro g cap w1 hn1 hgr hat hlt1
  have hG := Grown8.trans hG0 (grown_append (news := [1]) hn1 hgr (by rw [hsz]; exact hat))
  have hz1' : w.heap.size + 2 ≤ w1.heap.size := by have := hgr.size; simp at this; omega
  have b0 : w1.cell? ⟨w.heap.size, 0, none⟩ = some (.int .i64 1) := by
    rw [World.cell?_of_block (hgr.block w.heap.size (by simp; omega) (Ne.symm hfar))]; go_simp
  have b1 : w1.cell? ⟨w.heap.size, 1, none⟩ = some (.int .i64 n) := by
    rw [World.cell?_of_block (hgr.block w.heap.size (by simp; omega) (Ne.symm hfar))]; go_simp
  have b2 : w1.cell? ⟨w.heap.size, 2, none⟩ = some (.string ⟨#[]⟩) := by
    rw [World.cell?_of_block (hgr.block w.heap.size (by simp; omega) (Ne.symm hfar))]; go_simp
  clear hgr hat hn1 hown1 hsz
  have hown2 := hG.1
  obtain ⟨L, hL⟩ : ∃ L, L = l ++ [(1 : UInt8)] := ⟨_, rfl⟩
  have hLl : L.length ≤ 1000001 := by rw [hL]; simp; omega
  have HL := Lib.hid hL
  obtain ⟨x1, hx1⟩ : ∃ x1, x1 = Value.slice (some ⟨g, 0, none⟩) (l.length + 1) cap := ⟨_, rfl⟩
  have hG1 : Grown8 w base v L x1 w1 := by rw [hL, hx1]; exact hG
  have hown3 : w1.ownsRow base 5 1 (.slice (some ⟨g, 0, none⟩) (l.length + 1) cap) L.length (u8s L) := by rw [hL]; exact hown2
  have HX := Lib.hid hx1
  clear hL hx1 hown2 hG
  go_wp2_with fail
  refine (number_any n h0 h1 _ L base _ (by omega) (by omega) hown3).mono ?_
  rintro e w2 ⟨v', rfl, hG2⟩
  rw [← HX.out] at hG2
  have hF := Grown8.trans hG1 hG2
  go_wp2
  go_ret
  refine ⟨_, rfl, ?_⟩
  have e : l ++ vkey (1, n, ⟨#[]⟩) = L ++ be8 (n + 9223372036854775808).toNat := by rw [HL.out]; simp [vkey]
  rw [e]
  exact hF
set_option maxRecDepth 100000 in
set_option maxHeartbeats 1000000 in
theorem key2 (s : ByteArray) (hs : s.size ≤ 200) (v : Value) (l : List UInt8) (base : Nat) (w : World)  (hl : l.length ≤ 1000000) (hb : base ≤ w.heap.size) (hown : w.ownsRow base 5 1 v l.length (u8s l)) :
    Calls Try.prog 81 #[v, .agg #[.int .i64 2, .int .i64 0, .string s]] w (Ret8 w base v (l ++ vkey (2, 0, s))) := by
  obtain ⟨i0, hi, hz0, hz1, hz2⟩ := info_parts info_u8
  have hG0 := (Grown8.refl hown).below ((Below.refl _ w).alloc (Nat.le_refl _) (.cells #[.int .i64 2, .int .i64 0, .string s] 55))
  have hfar : v.ownBlock ≠ some w.heap.size := fun e => by have := (hown.lt _ e).2; omega
  have hown1 := hG0.1
  have hsz : (w.alloc (.cells #[.int .i64 2, .int .i64 0, .string s] 55)).heap.size = w.heap.size + 1 := by simp
  go_enter Try.func81, Try.ntmps81
  go_wp2_with (at_builtin; refine wpList_append_lies _ rfl (.tmp 5) (.tmp 9) 91 rfl base 5 i0 (.int .u8 0) 1 1 Try.underlying91 hi hz0 hz1 hz2 rfl (by decide) _ l.length (u8s l) rfl (hown1.alloc _) ⟨w.heap.size + 1, 0, none⟩ 1 1 [.int .u8 2] rfl rfl ?c0 ?c1 (by decide) ?c2 ?c3 ?c4 (w.heap.size + 2) ?c5 ?_)
  case c0 => exact World.news_of_block (cs := #[.int .u8 2]) (t := 5) (fr := (0, 0)) (by rw [← hsz]; exact heap_alloc_new _ _)
  case c1 => simp [Value.oneCell']
  case c2 => unfold maxLen; omega
  case c3 => omega
  case c4 => simp; omega
  case c5 => simp
  intro g cap w1 hn1 hgr hat hlt1
  have hG := Grown8.trans hG0 (grown_append (news := [2]) hn1 hgr (by rw [hsz]; exact hat))
  have hz1' : w.heap.size + 2 ≤ w1.heap.size := by have := hgr.size; simp at this; omega
  have b0 : w1.cell? ⟨w.heap.size, 0, none⟩ = some (.int .i64 2) := by
    rw [World.cell?_of_block (hgr.block w.heap.size (by simp; omega) (Ne.symm hfar))]; go_simp
  have b1 : w1.cell? ⟨w.heap.size, 1, none⟩ = some (.int .i64 0) := by
    rw [World.cell?_of_block (hgr.block w.heap.size (by simp; omega) (Ne.symm hfar))]; go_simp
  have b2 : w1.cell? ⟨w.heap.size, 2, none⟩ = some (.string s) := by
    rw [World.cell?_of_block (hgr.block w.heap.size (by simp; omega) (Ne.symm hfar))]; go_simp
  clear hgr hat hn1 hown1 hsz
  have hown2 := hG.1
  obtain ⟨L, hL⟩ : ∃ L, L = l ++ [(2 : UInt8)] := ⟨_, rfl⟩
  have hLl : L.length ≤ 1000001 := by rw [hL]; simp; omega
  have HL := Lib.hid hL
  obtain ⟨x1, hx1⟩ : ∃ x1, x1 = Value.slice (some ⟨g, 0, none⟩) (l.length + 1) cap := ⟨_, rfl⟩
  have hG1 : Grown8 w base v L x1 w1 := by rw [hL, hx1]; exact hG
  have hown3 : w1.ownsRow base 5 1 (.slice (some ⟨g, 0, none⟩) (l.length + 1) cap) L.length (u8s L) := by rw [hL]; exact hown2
  have HX := Lib.hid hx1
  clear hL hx1 hown2 hG
  go_wp2_with fail
  refine (text_app s (by omega) _ L base _ (by omega) (by omega) hown3).mono ?_
  rintro e w2 ⟨v', rfl, hG2⟩
  rw [← HX.out] at hG2
  have hF := Grown8.trans hG1 hG2
  go_wp2
  go_ret
  refine ⟨_, rfl, ?_⟩
  have e : l ++ vkey (2, 0, s) = L ++ esc s.data.toList ++ [0, 1] := by rw [HL.out]; simp [vkey]
  rw [e]
  exact hF
set_option maxRecDepth 100000 in
set_option maxHeartbeats 1000000 in
theorem key30  (v : Value) (l : List UInt8) (base : Nat) (w : World)  (hl : l.length ≤ 1000000) (hb : base ≤ w.heap.size) (hown : w.ownsRow base 5 1 v l.length (u8s l)) :
    Calls Try.prog 81 #[v, .agg #[.int .i64 3, .int .i64 0, .string ⟨#[]⟩]] w (Ret8 w base v (l ++ vkey (3, 0, ⟨#[]⟩))) := by
  obtain ⟨i0, hi, hz0, hz1, hz2⟩ := info_parts info_u8
  have hG0 := (Grown8.refl hown).below ((Below.refl _ w).alloc (Nat.le_refl _) (.cells #[.int .i64 3, .int .i64 0, .string ⟨#[]⟩] 55))
  have hfar : v.ownBlock ≠ some w.heap.size := fun e => by have := (hown.lt _ e).2; omega
  have hown1 := hG0.1
  have hsz : (w.alloc (.cells #[.int .i64 3, .int .i64 0, .string ⟨#[]⟩] 55)).heap.size = w.heap.size + 1 := by simp
  go_enter Try.func81, Try.ntmps81
  go_wp2_with (at_builtin; refine wpList_append_lies _ rfl (.tmp 5) (.tmp 9) 91 rfl base 5 i0 (.int .u8 0) 1 1 Try.underlying91 hi hz0 hz1 hz2 rfl (by decide) _ l.length (u8s l) rfl (hown1.alloc _) ⟨w.heap.size + 1, 0, none⟩ 1 1 [.int .u8 3] rfl rfl ?c0 ?c1 (by decide) ?c2 ?c3 ?c4 (w.heap.size + 2) ?c5 ?_)
  case c0 => exact World.news_of_block (cs := #[.int .u8 3]) (t := 5) (fr := (0, 0)) (by rw [← hsz]; exact heap_alloc_new _ _)
  case c1 => simp [Value.oneCell']
  case c2 => unfold maxLen; omega
  case c3 => omega
  case c4 => simp; omega
  case c5 => simp
  intro g cap w1 hn1 hgr hat hlt1
  have hG := Grown8.trans hG0 (grown_append (news := [3]) hn1 hgr (by rw [hsz]; exact hat))
  have hz1' : w.heap.size + 2 ≤ w1.heap.size := by have := hgr.size; simp at this; omega
  have b0 : w1.cell? ⟨w.heap.size, 0, none⟩ = some (.int .i64 3) := by
    rw [World.cell?_of_block (hgr.block w.heap.size (by simp; omega) (Ne.symm hfar))]; go_simp
  have b1 : w1.cell? ⟨w.heap.size, 1, none⟩ = some (.int .i64 0) := by
    rw [World.cell?_of_block (hgr.block w.heap.size (by simp; omega) (Ne.symm hfar))]; go_simp
  have b2 : w1.cell? ⟨w.heap.size, 2, none⟩ = some (.string ⟨#[]⟩) := by
    rw [World.cell?_of_block (hgr.block w.heap.size (by simp; omega) (Ne.symm hfar))]; go_simp
  clear hgr hat hn1 hown1 hsz
  have hown2 := hG.1
  obtain ⟨L, hL⟩ : ∃ L, L = l ++ [(3 : UInt8)] := ⟨_, rfl⟩
  have hLl : L.length ≤ 1000001 := by rw [hL]; simp; omega
  have HL := Lib.hid hL
  obtain ⟨x1, hx1⟩ : ∃ x1, x1 = Value.slice (some ⟨g, 0, none⟩) (l.length + 1) cap := ⟨_, rfl⟩
  have hG1 : Grown8 w base v L x1 w1 := by rw [hL, hx1]; exact hG
  have hown3 : w1.ownsRow base 5 1 (.slice (some ⟨g, 0, none⟩) (l.length + 1) cap) L.length (u8s L) := by rw [hL]; exact hown2
  have HX := Lib.hid hx1
  clear hL hx1 hown2 hG
  go_wp2_with (at_builtin; refine wpList_append_lies _ rfl (.tmp 25) (.tmp 29) 91 rfl base 5 i0 (.int .u8 0) 1 1 Try.underlying91 hi hz0 hz1 hz2 rfl (by decide) (.slice (some ⟨g, 0, none⟩) (l.length + 1) cap) L.length (u8s L) rfl (hown3.alloc _) ⟨w1.heap.size, 0, none⟩ 1 1 [.int .u8 0] rfl rfl (cell_one_new _ _ _) ?d1 (by decide) ?d2 ?d3 ?d4 (w1.heap.size + 1) ?d5 ?_)
  case d1 => simp [Value.oneCell']
  case d2 => unfold maxLen; omega
  case d3 => omega
  case d4 => simp; omega
  case d5 => simp
  intro g2 cap2 w2 hn2 hgr2 hat2 hlt2
  have hF := Grown8.trans hG1 (by rw [HX.out]; exact grown_append (news := [0]) hn2 hgr2 hat2)
  clear hn2 hgr2 hat2
  go_wp2
  go_ret
  refine ⟨_, rfl, ?_⟩
  have e : l ++ vkey (3, 0, ⟨#[]⟩) = L ++ [0] := by rw [HL.out]; simp [vkey]
  rw [e]
  exact hF
set_option maxRecDepth 100000 in
set_option maxHeartbeats 1000000 in
theorem key31  (v : Value) (l : List UInt8) (base : Nat) (w : World)  (hl : l.length ≤ 1000000) (hb : base ≤ w.heap.size) (hown : w.ownsRow base 5 1 v l.length (u8s l)) :
    Calls Try.prog 81 #[v, .agg #[.int .i64 3, .int .i64 1, .string ⟨#[]⟩]] w (Ret8 w base v (l ++ vkey (3, 1, ⟨#[]⟩))) := by
  obtain ⟨i0, hi, hz0, hz1, hz2⟩ := info_parts info_u8
  have hG0 := (Grown8.refl hown).below ((Below.refl _ w).alloc (Nat.le_refl _) (.cells #[.int .i64 3, .int .i64 1, .string ⟨#[]⟩] 55))
  have hfar : v.ownBlock ≠ some w.heap.size := fun e => by have := (hown.lt _ e).2; omega
  have hown1 := hG0.1
  have hsz : (w.alloc (.cells #[.int .i64 3, .int .i64 1, .string ⟨#[]⟩] 55)).heap.size = w.heap.size + 1 := by simp
  go_enter Try.func81, Try.ntmps81
  go_wp2_with (at_builtin; refine wpList_append_lies _ rfl (.tmp 5) (.tmp 9) 91 rfl base 5 i0 (.int .u8 0) 1 1 Try.underlying91 hi hz0 hz1 hz2 rfl (by decide) _ l.length (u8s l) rfl (hown1.alloc _) ⟨w.heap.size + 1, 0, none⟩ 1 1 [.int .u8 3] rfl rfl ?c0 ?c1 (by decide) ?c2 ?c3 ?c4 (w.heap.size + 2) ?c5 ?_)
  case c0 => exact World.news_of_block (cs := #[.int .u8 3]) (t := 5) (fr := (0, 0)) (by rw [← hsz]; exact heap_alloc_new _ _)
  case c1 => simp [Value.oneCell']
  case c2 => unfold maxLen; omega
  case c3 => omega
  case c4 => simp; omega
  case c5 => simp
  intro g cap w1 hn1 hgr hat hlt1
  have hG := Grown8.trans hG0 (grown_append (news := [3]) hn1 hgr (by rw [hsz]; exact hat))
  have hz1' : w.heap.size + 2 ≤ w1.heap.size := by have := hgr.size; simp at this; omega
  have b0 : w1.cell? ⟨w.heap.size, 0, none⟩ = some (.int .i64 3) := by
    rw [World.cell?_of_block (hgr.block w.heap.size (by simp; omega) (Ne.symm hfar))]; go_simp
  have b1 : w1.cell? ⟨w.heap.size, 1, none⟩ = some (.int .i64 1) := by
    rw [World.cell?_of_block (hgr.block w.heap.size (by simp; omega) (Ne.symm hfar))]; go_simp
  have b2 : w1.cell? ⟨w.heap.size, 2, none⟩ = some (.string ⟨#[]⟩) := by
    rw [World.cell?_of_block (hgr.block w.heap.size (by simp; omega) (Ne.symm hfar))]; go_simp
  clear hgr hat hn1 hown1 hsz
  have hown2 := hG.1
  obtain ⟨L, hL⟩ : ∃ L, L = l ++ [(3 : UInt8)] := ⟨_, rfl⟩
  have hLl : L.length ≤ 1000001 := by rw [hL]; simp; omega
  have HL := Lib.hid hL
  obtain ⟨x1, hx1⟩ : ∃ x1, x1 = Value.slice (some ⟨g, 0, none⟩) (l.length + 1) cap := ⟨_, rfl⟩
  have hG1 : Grown8 w base v L x1 w1 := by rw [hL, hx1]; exact hG
  have hown3 : w1.ownsRow base 5 1 (.slice (some ⟨g, 0, none⟩) (l.length + 1) cap) L.length (u8s L) := by rw [hL]; exact hown2
  have HX := Lib.hid hx1
  clear hL hx1 hown2 hG
  go_wp2_with (at_builtin; refine wpList_append_lies _ rfl (.tmp 25) (.tmp 29) 91 rfl base 5 i0 (.int .u8 0) 1 1 Try.underlying91 hi hz0 hz1 hz2 rfl (by decide) (.slice (some ⟨g, 0, none⟩) (l.length + 1) cap) L.length (u8s L) rfl (hown3.alloc _) ⟨w1.heap.size, 0, none⟩ 1 1 [.int .u8 1] rfl rfl (cell_one_new _ _ _) ?d1 (by decide) ?d2 ?d3 ?d4 (w1.heap.size + 1) ?d5 ?_)
  case d1 => simp [Value.oneCell']
  case d2 => unfold maxLen; omega
  case d3 => omega
  case d4 => simp; omega
  case d5 => simp
  intro g2 cap2 w2 hn2 hgr2 hat2 hlt2
  have hF := Grown8.trans hG1 (by rw [HX.out]; exact grown_append (news := [1]) hn2 hgr2 hat2)
  clear hn2 hgr2 hat2
  go_wp2
  go_ret
  refine ⟨_, rfl, ?_⟩
  have e : l ++ vkey (3, 1, ⟨#[]⟩) = L ++ [1] := by rw [HL.out]; simp [vkey]
  rw [e]
  exact hF
theorem right_kinds {v : Val} (h : vright v = true) : (v.1 = 1 ∧ v.2.2 = ⟨#[]⟩) ∨ (v.1 = 2 ∧ v.2.1 = 0 ∧ v.2.2.size ≤ 200) ∨ (v.1 = 3 ∧ (v.2.1 = 0 ∨ v.2.1 = 1) ∧ v.2.2 = ⟨#[]⟩) := by
  unfold vright at h
  split at h
  · exact .inl ⟨by assumption, eq_empty (by simpa using h)⟩
  · split at h
    · rw [Bool.and_eq_true] at h
      exact .inr (.inl ⟨by assumption, of_decide_eq_true h.1, of_decide_eq_true h.2⟩)
    · split at h
      · rw [Bool.and_eq_true, Bool.or_eq_true] at h
        exact .inr (.inr ⟨by assumption, h.1.imp of_decide_eq_true of_decide_eq_true, eq_empty (of_decide_eq_true h.2)⟩)
      · cases h
theorem key_app (u : Val) (hu : vright u = true) (h0 : -9223372036854775808 ≤ u.2.1) (h1 : u.2.1 ≤ 9223372036854775807) (v : Value) (l : List UInt8) (base : Nat) (w : World) (hl : l.length ≤ 1000000) (hb : base ≤ w.heap.size) (hown : w.ownsRow base 5 1 v l.length (u8s l)) :
    Calls Try.prog 81 #[v, vagg u] w (Ret8 w base v (l ++ vkey u)) := by
  obtain ⟨k, n, s⟩ := u
  rcases right_kinds hu with ⟨h, h'⟩ | ⟨h, h', h''⟩ | ⟨h, h', h''⟩
  · simp only [] at h h'; subst h h'; exact key1 n h0 h1 v l base w hl hb hown
  · simp only [] at h h'; subst h h'; exact key2 s h'' v l base w hl hb hown
  · simp only [] at h h' h''; subst h h''
    rcases h' with h' | h'
    · subst h'; exact key30 v l base w hl hb hown
    · subst h'; exact key31 v l base w hl hb hown
end Go.Proofs.Ytapnkbamilkpoaa
