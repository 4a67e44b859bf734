/- Contracts of slices.Clone, of columns, of indexes, of numbers. -/
import Derived.Test.YtapnkbamilkpoaaSch6
import Derived.Test.YtapnkbamilkpoaaWorld
import Derived.Test.YtapnkbamilkpoaaShelf
import Derived.Laws.AppendOwn
namespace Go.Proofs.Ytapnkbamilkpoaa
open Go.RowKit
def ccells (cs : List Col) : List Value := cs.flatMap fun x => [.string x.1, .int .i64 x.2]
def icells (xs : List Idx) : List Value := xs.flatMap fun x => [.slice x.a x.n x.c, .bool x.u]
theorem pair_at {α : Type} (f g : α → Value) : ∀ (l : List α) (j : Nat) (u : Value), (l.flatMap fun x => [f x, g x])[j]? = some u → ∃ i x, l[i]? = some x ∧ ((j = i * 2 ∧ u = f x) ∨ (j = i * 2 + 1 ∧ u = g x))
  | [], j, u, h => by simp at h
  | x :: r, 0, u, h => ⟨0, x, rfl, .inl ⟨rfl, by simpa using h.symm⟩⟩
  | x :: r, 1, u, h => ⟨0, x, rfl, .inr ⟨rfl, by simpa using h.symm⟩⟩
  | x :: r, j + 2, u, h => by
    have h' : (r.flatMap fun x => [f x, g x])[j]? = some u := by simpa using h
    obtain ⟨i, y, hy, hc⟩ := pair_at f g r j u h'
    refine ⟨i + 1, y, by simpa using hy, ?_⟩
    rcases hc with ⟨h1, h2⟩ | ⟨h1, h2⟩
    · exact .inl ⟨by omega, h2⟩
    · exact .inr ⟨by omega, h2⟩
theorem pair_mk {α : Type} (f g : α → Value) : ∀ (l : List α) (i : Nat) (x : α), l[i]? = some x → (l.flatMap fun x => [f x, g x])[i * 2]? = some (f x) ∧ (l.flatMap fun x => [f x, g x])[i * 2 + 1]? = some (g x)
  | [], i, x, h => by simp at h
  | y :: r, 0, x, h => by
    have : y = x := by simpa using h
    subst this
    exact ⟨rfl, rfl⟩
  | y :: r, i + 1, x, h => by
    have h' : r[i]? = some x := by simpa using h
    obtain ⟨h1, h2⟩ := pair_mk f g r i x h'
    rw [show (i + 1) * 2 = i * 2 + 2 by omega, show i * 2 + 2 + 1 = i * 2 + 1 + 2 by omega]
    exact ⟨by simpa using h1, by simpa using h2⟩
theorem pair_len {α : Type} (f g : α → Value) (l : List α) : (l.flatMap fun x => [f x, g x]).length = l.length * 2 := by
  induction l with
  | nil => rfl
  | cons x r ih => simp [ih]; omega
theorem add_lit' (b o j : Nat) : (⟨b, o, none⟩ : Addr).add j = ⟨b, o + j, none⟩ := by unfold Addr.add; split <;> simp_all
theorem own_at2 {w : World} {B : Nat} {t : TypeId} {g n c : Nat} {xs : List Value} (h : w.ownsRow B t 2 (.slice (some ⟨g, 0, none⟩) n c) n xs) {j : Nat} {u : Value} (hu : xs[j]? = some u) : w.cell? ⟨g, j, none⟩ = some u := by
  have := h.cells (g := g) rfl j u hu
  rw [add_lit', Nat.zero_add] at this
  exact this
theorem own_cols {w : World} {B : Nat} {t : TypeId} {a : Option Addr} {n c : Nat} {cs : List Col} (h : w.ownsRow B t 2 (.slice a n c) n (ccells cs)) : Cols w a cs := by
  by_cases hn : cs = []
  · exact .inl hn
  · rcases h.2 with ⟨hv, h0⟩ | ⟨g, cap, cur, hv, _, hg, _⟩
    · have h1 := h.1
      rw [h0] at h1
      unfold ccells at h1
      rw [pair_len] at h1
      exact absurd (List.eq_nil_of_length_eq_zero (by omega)) hn
    · injection hv with ha hn' hc
      subst ha hc
      refine .inr ⟨hn, g, 0, rfl, (Array.getElem?_eq_some_iff.1 hg).1, fun i x hi => ?_⟩
      obtain ⟨h1, h2⟩ := pair_mk (fun x : Col => Value.string x.1) (fun x : Col => Value.int .i64 x.2) cs i x hi
      rw [Nat.zero_add]
      exact ⟨own_at2 h h1, own_at2 h h2⟩
theorem info2_col : (Try.prog.info? 29).map (fun i => (i.zero, i.size, i.bytes)) = some (some (.agg #[.string ⟨#[]⟩, .int .i64 0]), 2, 24) := by kernel_rfl
theorem info2_idx : (Try.prog.info? 34).map (fun i => (i.zero, i.size, i.bytes)) = some (some (.agg #[.slice none 0 0, .bool false]), 2, 32) := by kernel_rfl
theorem clonec_src {w : World} {a : Addr} {cs : List Col} (h : Cols w (some a) cs) : ∀ j u, (ccells cs)[j]? = some u → w.cell? (a.add j) = some u := by
  intro j u hj
  rcases h with h | ⟨hn, b, o, he, hb, hz⟩
  · subst h; simp [ccells] at hj
  · injection he with he
    subst he
    obtain ⟨i, x, hi, hc⟩ := pair_at (fun x : Col => Value.string x.1) (fun x : Col => Value.int .i64 x.2) cs j u hj
    obtain ⟨h1, h2⟩ := hz i x hi
    rw [add_lit']
    rcases hc with ⟨rfl, rfl⟩ | ⟨rfl, rfl⟩
    · exact h1
    · rw [show o + (i * 2 + 1) = o + i * 2 + 1 by omega]; exact h2
set_option maxRecDepth 100000 in
set_option maxHeartbeats 2000000 in
theorem clonec_any (a : Option Addr) (m c : Nat) (cs : List Col) (w : World) (hl : cs.length = m) (hm : m ≤ 1048576) (hc : Cols w a cs) :
    Calls Try.prog 30 #[.slice a m c] w fun e w' => ∃ v', e = .returned v' ∧ w'.ownsRow w.heap.size 29 2 v' m (ccells cs) ∧ Below w.heap.size w w' := by
  obtain ⟨i0, hi, hz0, hz1, hz2⟩ := info_parts info2_col
  have q22 : ∀ (w : World) (a : Option Addr) (n c n' c' : Nat), (binOp .eql 22 (.slice a n c) (.slice none n' c')).run Try.prog w = .ok (.bool a.isNone) w := fun w a n c n' c' => Lib.run_eql_slice_nil w _ _ a n c n' c' Try.underlying22
  cases a with
  | none =>
    have h0 : cs = [] := by rcases hc with h | ⟨_, b, o, he, _⟩; exact h; cases he
    subst h0
    have hm0 : m = 0 := by simpa using hl.symm
    subst hm0
    clear hc hl
    go_enter Try.func30, Try.ntmps30
    go_wp2
    go_ret
    exact ⟨_, rfl, World.ownsRow_nil _ _ _ _, Below.refl _ _⟩
  | some ad =>
    have hsrc := clonec_src hc
    have hlen : (ccells cs).length = m * 2 := by unfold ccells; rw [pair_len, hl]
    have hone : ∀ u ∈ ccells cs, u.oneCell' = true := by
      intro u hu
      obtain ⟨x, _, hx⟩ := List.mem_flatMap.1 hu
      simp only [List.mem_cons, List.not_mem_nil, or_false] at hx
      rcases hx with rfl | rfl <;> rfl
    have HS := Lib.hid hsrc
    have HN := Lib.hid hlen
    have HO := Lib.hid hone
    clear hc hl hsrc hlen hone
    go_enter Try.func30, Try.ntmps30
    go_wp2_with (at_builtin; refine wpList_append_own _ rfl _ _ 22 rfl w.heap.size 29 i0 (.agg #[.string ⟨#[]⟩, .int .i64 0]) 2 24 Try.underlying22 hi hz0 hz1 hz2 rfl (by decide) _ _ _ rfl (World.ownsRow_made w #[] 0 (Nat.le_refl _) (Nat.zero_le _) rfl) ad m c (ccells cs) rfl ?qc1 ?qc2 ?qc3 ?qc4 ?qc5 ?qc6 ?_)
    case qc1 => exact HN.out
    case qc2 => exact fun j u hj => Lib.cell?_alloc_some _ (HS.out j u hj)
    case qc3 => exact HO.out
    case qc4 => unfold maxLen; omega
    case qc5 => omega
    case qc6 => simp
    intro v' w1 hown hgrow hnil
    have hB := ((Below.refl _ w).alloc (Nat.le_refl _) (.cells #[] 29)).grown hgrow (by simp) (by intro k hk; simp [Value.ownBlock] at hk; omega)
    have HW := Lib.hid hown
    have HB := Lib.hid hB
    clear hown hgrow hnil hB
    go_wp2
    go_ret
    exact ⟨v', rfl, HW.out, HB.out⟩
theorem clonei_src {w : World} {a : Addr} {cs : List Idx} (h : Idxs w (some a) cs) : ∀ j u, (icells cs)[j]? = some u → w.cell? (a.add j) = some u := by
  intro j u hj
  rcases h with h | ⟨hn, b, o, he, hb, hz⟩
  · subst h; simp [icells] at hj
  · injection he with he
    subst he
    obtain ⟨i, x, hi, hc⟩ := pair_at (fun x : Idx => Value.slice x.a x.n x.c) (fun x : Idx => Value.bool x.u) cs j u hj
    obtain ⟨h1, h2⟩ := (hz i x hi).1
    rw [add_lit']
    rcases hc with ⟨rfl, rfl⟩ | ⟨rfl, rfl⟩
    · exact h1
    · rw [show o + (i * 2 + 1) = o + i * 2 + 1 by omega]; exact h2
set_option maxRecDepth 100000 in
set_option maxHeartbeats 2000000 in
theorem clonei_any (a : Option Addr) (m c : Nat) (cs : List Idx) (w : World) (hl : cs.length = m) (hm : m ≤ 1048576) (hc : Idxs w a cs) :
    Calls Try.prog 31 #[.slice a m c] w fun e w' => ∃ v', e = .returned v' ∧ w'.ownsRow w.heap.size 34 2 v' m (icells cs) ∧ Below w.heap.size w w' := by
  obtain ⟨i0, hi, hz0, hz1, hz2⟩ := info_parts info2_idx
  have q22 : ∀ (w : World) (a : Option Addr) (n c n' c' : Nat), (binOp .eql 23 (.slice a n c) (.slice none n' c')).run Try.prog w = .ok (.bool a.isNone) w := fun w a n c n' c' => Lib.run_eql_slice_nil w _ _ a n c n' c' Try.underlying23
  cases a with
  | none =>
    have h0 : cs = [] := by rcases hc with h | ⟨_, b, o, he, _⟩; exact h; cases he
    subst h0
    have hm0 : m = 0 := by simpa using hl.symm
    subst hm0
    clear hc hl
    go_enter Try.func31, Try.ntmps31
    go_wp2
    go_ret
    exact ⟨_, rfl, World.ownsRow_nil _ _ _ _, Below.refl _ _⟩
  | some ad =>
    have hsrc := clonei_src hc
    have hlen : (icells cs).length = m * 2 := by unfold icells; rw [pair_len, hl]
    have hone : ∀ u ∈ icells cs, u.oneCell' = true := by
      intro u hu
      obtain ⟨x, _, hx⟩ := List.mem_flatMap.1 hu
      simp only [List.mem_cons, List.not_mem_nil, or_false] at hx
      rcases hx with rfl | rfl <;> rfl
    have HS := Lib.hid hsrc
    have HN := Lib.hid hlen
    have HO := Lib.hid hone
    clear hc hl hsrc hlen hone
    go_enter Try.func31, Try.ntmps31
    go_wp2_with (at_builtin; refine wpList_append_own _ rfl _ _ 23 rfl w.heap.size 34 i0 (.agg #[.slice none 0 0, .bool false]) 2 32 Try.underlying23 hi hz0 hz1 hz2 rfl (by decide) _ _ _ rfl (World.ownsRow_made w #[] 0 (Nat.le_refl _) (Nat.zero_le _) rfl) ad m c (icells cs) rfl ?qc1 ?qc2 ?qc3 ?qc4 ?qc5 ?qc6 ?_)
    case qc1 => exact HN.out
    case qc2 => exact fun j u hj => Lib.cell?_alloc_some _ (HS.out j u hj)
    case qc3 => exact HO.out
    case qc4 => unfold maxLen; omega
    case qc5 => omega
    case qc6 => simp
    intro v' w1 hown hgrow hnil
    have hB := ((Below.refl _ w).alloc (Nat.le_refl _) (.cells #[] 34)).grown hgrow (by simp) (by intro k hk; simp [Value.ownBlock] at hk; omega)
    have HW := Lib.hid hown
    have HB := Lib.hid hB
    clear hown hgrow hnil hB
    go_wp2
    go_ret
    exact ⟨v', rfl, HW.out, HB.out⟩
/-- slices.Clone of numbers, of any slice. -/
theorem clonep_any (a : Option Addr) (m c : Nat) (ps : List Int) (w : World) (hl : ps.length = m) (hm : m ≤ 1048576) (hp : Ints .i64 w a ps) :
    Calls Try.prog 32 #[.slice a m c] w fun e w' => ∃ v', e = .returned v' ∧ w'.ownsRow w.heap.size 3 1 v' m (ps.map (Value.int .i64)) ∧ Below w.heap.size w w' := by
  cases a with
  | none =>
    have h0 : ps = [] := by rcases hp with h | ⟨_, b, o, he, _⟩; exact h; cases he
    subst h0
    have hm0 : m = 0 := by simpa using hl.symm
    subst hm0
    refine (Try.slices_Clone_int_nil 0 c w).mono fun e w' h => ?_
    obtain ⟨rfl, rfl⟩ := h
    exact ⟨_, rfl, World.ownsRow_nil _ _ _ _, Below.refl _ _⟩
  | some ad =>
    rcases hp with h | ⟨hn, b, o, he, hb, hc⟩
    · subst h
      have hm0 : m = 0 := by simpa using hl.symm
      subst hm0
      refine (Try.slices_Clone_int_zero ad c w).mono fun e w' h => ?_
      obtain ⟨v', h1, h2, _, h3⟩ := h
      exact ⟨v', h1, h2, h3⟩
    · injection he with he
      subst he
      refine (Try.slices_Clone_int b o m c ps w (by omega) (by omega) hc).mono fun e w' h => ?_
      obtain ⟨v', h1, h2, _, h3⟩ := h
      rw [List.take_of_length_le (by omega)] at h2
      exact ⟨v', h1, h2, h3⟩
theorem own_ints {w : World} {B : Nat} {t : TypeId} {a : Option Addr} {n c : Nat} {ps : List Int} (h : w.ownsRow B t 1 (.slice a n c) n (ps.map (Value.int .i64))) : Ints .i64 w a ps := by
  by_cases hn : ps = []
  · exact .inl hn
  · rcases h.2 with ⟨hv, h0⟩ | ⟨g, cap, cur, hv, _, hg, _⟩
    · have h1 := h.1
      rw [h0, List.length_map] at h1
      exact absurd (List.eq_nil_of_length_eq_zero (by omega)) hn
    · injection hv with ha hn' hc
      subst ha hc
      refine .inr ⟨hn, g, 0, rfl, (Array.getElem?_eq_some_iff.1 hg).1, fun i hi => ?_⟩
      have h1 := h.cells (g := g) rfl i (.int .i64 (ps.getD i 0)) (by rw [List.getElem?_map, List.getElem?_eq_getElem hi, List.getD_eq_getElem?_getD, List.getElem?_eq_getElem hi]; rfl)
      rw [add_lit', Nat.zero_add] at h1
      rw [Nat.zero_add]
      exact h1
end Go.Proofs.Ytapnkbamilkpoaa
