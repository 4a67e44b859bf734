/- Files by their names, as lists: what putting and taking away make of them. No walk. -/
import Derived.Test.YtmepanbfknmieaaDSum
namespace Go.Proofs.Ytmepanbfknmieaa
open Go.RowKit Go.Maps
section
variable {β γ : Type}
def mapV (f : β → γ) (L : List (List UInt8 × β)) : List (List UInt8 × γ) := L.map fun p => (p.1, f p.2)
/-- The names rise. -/
def Rising (L : List (List UInt8 × β)) : Prop := L.Pairwise fun p q => bytesBefore p.1 q.1 = true
theorem mapV_mapV {δ : Type} (g : γ → δ) (f : β → γ) (L : List (List UInt8 × β)) : mapV g (mapV f L) = mapV (fun x => g (f x)) L := by simp [mapV]
theorem mapV_len (f : β → γ) (L : List (List UInt8 × β)) : (mapV f L).length = L.length := by simp [mapV]
theorem mapV_keys (f : β → γ) (L : List (List UInt8 × β)) : (mapV f L).map (·.1) = L.map (·.1) := by simp [mapV, Function.comp_def]
theorem mapV_get (f : β → γ) (L : List (List UInt8 × β)) (k : List UInt8) : fget (mapV f L) k = (fget L k).map f := by
  unfold fget mapV
  rw [List.find?_map]
  simp [Function.comp_def]
theorem mapV_del (f : β → γ) (L : List (List UInt8 × β)) (k : List UInt8) : fdel (mapV f L) k = mapV f (fdel L k) := by
  unfold fdel mapV
  rw [List.filter_map]
  rfl
theorem mapV_ins (f : β → γ) (x : List UInt8 × β) (L : List (List UInt8 × β)) : fins (x.1, f x.2) (mapV f L) = mapV f (fins x L) := by
  induction L with
  | nil => rfl
  | cons y r ih =>
    simp only [mapV, List.map_cons, fins]
    by_cases h : (Lit.string x.1).before (.string y.1) = true
    · rw [if_pos h, if_pos h]; rfl
    · rw [if_neg h, if_neg h]; simp only [List.map_cons]; rw [← mapV, ← mapV, ih]
theorem mapV_put (f : β → γ) (L : List (List UInt8 × β)) (k : List UInt8) (x : β) : fput (mapV f L) k (f x) = mapV f (fput L k x) := by
  unfold fput
  rw [mapV_del, ← mapV_ins]
theorem rising_mapV {f : β → γ} {L : List (List UInt8 × β)} : Rising (mapV f L) ↔ Rising L := by
  unfold Rising mapV
  rw [List.pairwise_map]
theorem rising_nodup {L : List (List UInt8 × β)} (h : Rising L) : (L.map (·.1)).Nodup := by
  unfold List.Nodup
  rw [List.pairwise_map]
  exact h.imp fun {p q} hb e => by rw [e, WideAt.bytes_irrefl] at hb; cases hb
theorem bb_total {a b : List UInt8} (h : a ≠ b) (h2 : ¬ bytesBefore a b = true) : bytesBefore b a = true := by
  rcases ChangeMaps.before_total (a := .string a) (b := .string b) ⟨a, rfl⟩ ⟨b, rfl⟩ (fun e => h (by injection e)) with x | x
  · exact absurd x h2
  · exact x
theorem bb_trans {a b c : List UInt8} (h1 : bytesBefore a b = true) (h2 : bytesBefore b c = true) : bytesBefore a c = true := WideShapes.before_trans (a := .string a) (b := .string b) (c := .string c) h1 h2
theorem mem_fdel {L : List (List UInt8 × β)} {k : List UInt8} {p : List UInt8 × β} : p ∈ fdel L k ↔ p ∈ L ∧ p.1 ≠ k := by simp [fdel]
theorem mem_fins {L : List (List UInt8 × β)} {x p : List UInt8 × β} : p ∈ fins x L ↔ p = x ∨ p ∈ L := by
  induction L with
  | nil => simp [fins]
  | cons y r ih =>
    unfold fins
    split
    · simp
    · simp only [List.mem_cons, ih]
      constructor
      · rintro (h | h | h)
        · exact .inr (.inl h)
        · exact .inl h
        · exact .inr (.inr h)
      · rintro (h | h | h)
        · exact .inr (.inl h)
        · exact .inl h
        · exact .inr (.inr h)
theorem mem_fput {L : List (List UInt8 × β)} {k : List UInt8} {x : β} {p : List UInt8 × β} : p ∈ fput L k x ↔ p = (k, x) ∨ (p ∈ L ∧ p.1 ≠ k) := by
  unfold fput; rw [mem_fins, mem_fdel]
theorem fdel_rising {L : List (List UInt8 × β)} (h : Rising L) (k : List UInt8) : Rising (fdel L k) := h.filter _
theorem fins_rising {L : List (List UInt8 × β)} (h : Rising L) {x : List UInt8 × β} (hx : ∀ p ∈ L, p.1 ≠ x.1) : Rising (fins x L) := by
  induction L with
  | nil => exact List.pairwise_singleton _ _
  | cons y r ih =>
    obtain ⟨h1, h2⟩ := List.pairwise_cons.1 h
    unfold fins
    split
    · rename_i hb
      refine List.pairwise_cons.2 ⟨fun q hq => ?_, h⟩
      rcases List.mem_cons.1 hq with rfl | hq
      · exact hb
      · exact bb_trans hb (h1 q hq)
    · rename_i hb
      refine List.pairwise_cons.2 ⟨fun q hq => ?_, ih h2 (fun p hp => hx p (List.mem_cons_of_mem _ hp))⟩
      rcases mem_fins.1 hq with rfl | hq
      · exact bb_total (fun e => hx y (by simp) e.symm) hb
      · exact h1 q hq
theorem fput_rising {L : List (List UInt8 × β)} (h : Rising L) (k : List UInt8) (x : β) : Rising (fput L k x) := fins_rising (fdel_rising h k) fun _ hp => (mem_fdel.1 hp).2
theorem fget_mem {L : List (List UInt8 × β)} {k : List UInt8} {x : β} (h : fget L k = some x) : (k, x) ∈ L := by
  unfold fget at h
  rw [Option.map_eq_some_iff] at h
  obtain ⟨p, hp, rfl⟩ := h
  have h1 := List.find?_some hp
  have h2 := List.mem_of_find?_eq_some hp
  simp only [beq_iff_eq] at h1
  rw [← h1]; exact h2
theorem fget_none {L : List (List UInt8 × β)} {k : List UInt8} : fget L k = none ↔ ∀ p ∈ L, p.1 ≠ k := by
  unfold fget
  rw [Option.map_eq_none_iff, List.find?_eq_none]
  simp
theorem fget_of_mem {L : List (List UInt8 × β)} (hr : Rising L) {k : List UInt8} {x : β} (h : (k, x) ∈ L) : fget L k = some x := by
  induction L with
  | nil => cases h
  | cons y r ih =>
    obtain ⟨h1, h2⟩ := List.pairwise_cons.1 hr
    unfold fget
    rw [List.find?_cons]
    rcases List.mem_cons.1 h with rfl | h
    · simp
    · have : (y.1 == k) = false := beq_false_of_ne (fun e => by
        have hb := h1 _ h
        simp only [e, WideAt.bytes_irrefl] at hb
        cases hb)
      rw [this]
      exact ih h2 h
theorem fins_len {L : List (List UInt8 × β)} (x : List UInt8 × β) : (fins x L).length = L.length + 1 := by
  induction L with
  | nil => rfl
  | cons y r ih =>
    unfold fins
    split
    · rfl
    · simp [ih]
theorem fdel_len_none {L : List (List UInt8 × β)} {k : List UInt8} (h : fget L k = none) : fdel L k = L := by
  unfold fdel
  rw [List.filter_eq_self]
  intro p hp
  simpa using fget_none.1 h p hp
theorem fdel_len_some {L : List (List UInt8 × β)} (hr : Rising L) {k : List UInt8} {x : β} (h : fget L k = some x) : (fdel L k).length + 1 = L.length := by
  induction L with
  | nil => cases h
  | cons y r ih =>
    obtain ⟨h1, h2⟩ := List.pairwise_cons.1 hr
    unfold fget at h
    rw [List.find?_cons] at h
    unfold fdel
    rw [List.filter_cons]
    by_cases he : y.1 = k
    · have hn : fget r k = none := fget_none.2 fun p hp e => by
        have hb := h1 p hp
        rw [e, he, WideAt.bytes_irrefl] at hb
        cases hb
      have hd := fdel_len_none hn
      unfold fdel at hd
      simp [he, hd]
    · have : (y.1 == k) = false := beq_false_of_ne he
      rw [this] at h
      have := ih h2 h
      unfold fdel at this
      simp [he, this]
theorem fput_len {L : List (List UInt8 × β)} (hr : Rising L) (k : List UInt8) (x : β) : (fput L k x).length = if fget L k = none then L.length + 1 else L.length := by
  unfold fput
  rw [fins_len]
  cases h : fget L k with
  | none => rw [fdel_len_none h]; rfl
  | some y => rw [fdel_len_some hr h]; rfl
theorem fput_get (L : List (List UInt8 × β)) (k j : List UInt8) (x : β) (hr : Rising L) : fget (fput L k x) j = if j = k then some x else fget L j := by
  by_cases h : j = k
  · subst h
    rw [if_pos rfl]
    exact fget_of_mem (fput_rising hr _ _) (mem_fput.2 (.inl rfl))
  · rw [if_neg h]
    cases hg : fget L j with
    | none =>
      rw [fget_none]
      intro p hp
      rcases mem_fput.1 hp with rfl | ⟨hp, _⟩
      · exact fun e => h e.symm
      · exact fget_none.1 hg p hp
    | some y => exact fget_of_mem (fput_rising hr _ _) (mem_fput.2 (.inr ⟨fget_mem hg, h⟩))
/-- How much of something all have together. -/
def totV (m : β → Nat) (L : List (List UInt8 × β)) : Nat := (L.map fun p => m p.2).sum
theorem totV_mapV (m : γ → Nat) (f : β → γ) (L : List (List UInt8 × β)) : totV m (mapV f L) = totV (fun x => m (f x)) L := by simp [totV, mapV, Function.comp_def]
theorem totV_ins (m : β → Nat) (x : List UInt8 × β) (L : List (List UInt8 × β)) : totV m (fins x L) = m x.2 + totV m L := by
  unfold totV
  induction L with
  | nil => rfl
  | cons y r ih =>
    unfold fins
    split
    · simp
    · simp only [List.map_cons, List.sum_cons, ih]; omega
theorem totV_del {m : β → Nat} {L : List (List UInt8 × β)} (hr : Rising L) (k : List UInt8) : totV m (fdel L k) + (match fget L k with | some x => m x | none => 0) = totV m L := by
  cases h : fget L k with
  | none => rw [fdel_len_none h]; rfl
  | some x =>
    simp only
    induction L with
    | nil => cases h
    | cons y r ih =>
      obtain ⟨h1, h2⟩ := List.pairwise_cons.1 hr
      unfold fget at h
      rw [List.find?_cons] at h
      unfold fdel totV
      rw [List.filter_cons]
      by_cases he : y.1 = k
      · have hn : fget r k = none := fget_none.2 fun p hp e => by
          have hb := h1 p hp
          rw [e, he, WideAt.bytes_irrefl] at hb
          cases hb
        have hd := fdel_len_none hn
        unfold fdel at hd
        simp only [he, beq_self_eq_true] at h
        injection h with h
        subst h
        simp only [he, beq_self_eq_true, Bool.not_true, Bool.false_eq_true, if_false, hd, List.map_cons, List.sum_cons]
        omega
      · have hb : (y.1 == k) = false := beq_false_of_ne he
        rw [hb] at h
        have := ih h2 h
        unfold fdel totV at this
        simp only [hb, Bool.not_false, if_true, List.map_cons, List.sum_cons]
        omega
theorem totV_put {m : β → Nat} {L : List (List UInt8 × β)} (hr : Rising L) (k : List UInt8) (x : β) : totV m (fput L k x) + (match fget L k with | some x => m x | none => 0) = m x + totV m L := by
  have := totV_del (m := m) hr k
  unfold fput
  rw [totV_ins]
  simp only
  omega
/-- A file that is there, put anew, stays in its place. -/
theorem fput_set {L : List (List UInt8 × β)} (hr : Rising L) {i : Nat} {k : List UInt8} {y x : β} (h : L[i]? = some (k, y)) : fput L k x = L.set i (k, x) := by
  induction L generalizing i with
  | nil => cases h
  | cons z r ih =>
    obtain ⟨h1, h2⟩ := List.pairwise_cons.1 hr
    cases i with
    | zero =>
      simp only [List.getElem?_cons_zero, Option.some.injEq] at h
      subst h
      have hn : fget r k = none := fget_none.2 fun p hp e => by
        have hb := h1 p hp
        rw [e, WideAt.bytes_irrefl] at hb
        cases hb
      have hd := fdel_len_none hn
      unfold fput fdel
      unfold fdel at hd
      simp only [List.filter_cons, beq_self_eq_true, Bool.not_true, Bool.false_eq_true, if_false, hd, List.set_cons_zero]
      cases r with
      | nil => rfl
      | cons q s => rw [fins, if_pos (show (Lit.string (k, x).1).before (.string q.1) = true from h1 q (by simp))]
    | succ i =>
      simp only [List.getElem?_cons_succ] at h
      have hm := List.mem_of_getElem? h
      have hb := h1 _ hm
      have hne : (z.1 == k) = false := beq_false_of_ne (fun e => by simp only [e, WideAt.bytes_irrefl] at hb; cases hb)
      have := ih h2 h
      unfold fput fdel at this ⊢
      simp only [List.filter_cons, hne, Bool.not_false, if_true, List.set_cons_succ]
      rw [fins, if_neg, this]
      intro hx
      have hx : bytesBefore k z.1 = true := hx
      have := bb_trans hb hx
      rw [WideAt.bytes_irrefl] at this
      cases this
end
end Go.Proofs.Ytmepanbfknmieaa
