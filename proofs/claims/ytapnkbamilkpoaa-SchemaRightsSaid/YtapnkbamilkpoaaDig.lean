/- Plain facts on numbers as lists of digits, the lowest first. -/
namespace Go.Proofs.Ytapnkbamilkpoaa
def dval : List Int → Int
  | [] => 0
  | d :: r => d + 10 * dval r
def Digs (l : List Int) : Prop := ∀ d ∈ l, 0 ≤ d ∧ d ≤ 9
def pw (n : Nat) : Int := 10 ^ n
theorem pw_succ (n : Nat) : pw (n + 1) = 10 * pw n := by unfold pw; rw [Int.pow_succ]; omega
theorem pw_zero : pw 0 = 1 := rfl
theorem pw_pos (n : Nat) : 1 ≤ pw n := by
  induction n with
  | zero => simp [pw]
  | succ n ih => rw [pw_succ]; omega
theorem dval_append (a b : List Int) : dval (a ++ b) = dval a + pw a.length * dval b := by
  induction a with
  | nil => simp [dval, pw]
  | cons d r ih =>
    have e : pw (r.length + 1) * dval b = 10 * (pw r.length * dval b) := by rw [pw_succ, Int.mul_assoc]
    simp only [List.cons_append, dval, ih, List.length_cons, e]; omega
theorem dval_snoc (a : List Int) (d : Int) : dval (a ++ [d]) = dval a + pw a.length * d := by rw [dval_append]; simp [dval]
theorem dval_nonneg {l : List Int} (h : Digs l) : 0 ≤ dval l := by
  induction l with
  | nil => simp [dval]
  | cons d r ih =>
    have h1 := h d (by simp)
    have h2 := ih (fun x hx => h x (by simp [hx]))
    simp only [dval]; omega
theorem dval_lt {l : List Int} (h : Digs l) : dval l < pw l.length := by
  induction l with
  | nil => simp [dval, pw]
  | cons d r ih =>
    have h1 := h d (by simp)
    have h2 := ih (fun x hx => h x (by simp [hx]))
    simp only [dval, List.length_cons, pw_succ]; omega
theorem Digs.snoc {l : List Int} {d : Int} (h : Digs l) (h0 : 0 ≤ d) (h1 : d ≤ 9) : Digs (l ++ [d]) := by
  intro x hx
  simp only [List.mem_append, List.mem_singleton] at hx
  rcases hx with hx | rfl
  · exact h x hx
  · exact ⟨h0, h1⟩
theorem Digs.take {l : List Int} (h : Digs l) (k : Nat) : Digs (l.take k) := fun x hx => h x (List.mem_of_mem_take hx)
/-- No nought above. -/
def Canon (l : List Int) : Prop := Digs l ∧ ∀ i, l ≠ [] → i + 1 = l.length → l.getD i 0 ≠ 0
theorem canon_nil : Canon [] := ⟨fun _ h => (List.not_mem_nil h).elim, fun _ h => absurd rfl h⟩
theorem canon_ge {l : List Int} (h : Canon l) (hn : l ≠ []) : pw (l.length - 1) ≤ dval l := by
  have hp : 0 < l.length := List.length_pos_iff.2 hn
  have e : l = l.take (l.length - 1) ++ [l.getD (l.length - 1) 0] := by
    rw [List.getD_eq_getElem?_getD, List.getElem?_eq_getElem (by omega), Option.getD_some, ← List.take_succ_eq_append_getElem (by omega), show l.length - 1 + 1 = l.length from by omega, List.take_length]
  have h1 := h.2 (l.length - 1) hn (by omega)
  have h2 : 0 ≤ l.getD (l.length - 1) 0 := by
    rw [List.getD_eq_getElem?_getD, List.getElem?_eq_getElem (by omega)]; exact (h.1 _ (List.getElem_mem _)).1
  have h3 := dval_nonneg (h.1.take (l.length - 1))
  have h4 := dval_snoc (l.take (l.length - 1)) (l.getD (l.length - 1) 0)
  rw [← e, List.length_take, Nat.min_eq_left (by omega)] at h4
  have h5 := pw_pos (l.length - 1)
  have h6 : pw (l.length - 1) * 1 ≤ pw (l.length - 1) * l.getD (l.length - 1) 0 := Int.mul_le_mul_of_nonneg_left (by omega) (by omega)
  omega
theorem pw_mono {a b : Nat} (h : a ≤ b) : pw a ≤ pw b := by
  obtain ⟨c, rfl⟩ := Nat.le.dest h
  induction c with
  | zero => exact Int.le_refl _
  | succ c ih => have := ih (by omega); have := pw_pos (a + c); rw [← Nat.add_assoc, pw_succ]; omega
theorem canon_len {l : List Int} (h : Canon l) {k : Nat} (hk : dval l < pw k) : l.length ≤ k := by
  by_cases hn : l = []
  · subst hn; simp
  · refine Nat.le_of_not_lt fun hlt => ?_
    have := canon_ge h hn
    have := pw_mono (a := k) (b := l.length - 1) (by omega)
    omega
theorem canon_nil_iff {l : List Int} (h : Canon l) : l = [] ↔ dval l = 0 := by
  constructor
  · rintro rfl; rfl
  · intro e
    by_cases hn : l = []
    · exact hn
    · have := canon_ge h hn; have := pw_pos (l.length - 1); omega
/-- Shorter is less; of one length the highest place at which they part tells. -/
theorem len_lt {a b : List Int} (ha : Canon a) (hb : Canon b) (h : a.length < b.length) : dval a < dval b := by
  have h1 := dval_lt ha.1
  have h2 := canon_ge hb (by rintro rfl; simp at h)
  have h3 := pw_mono (a := a.length) (b := b.length - 1) (by omega)
  omega
theorem take_getD (l : List Int) (k : Nat) (h : k < l.length) : l.take (k + 1) = l.take k ++ [l.getD k 0] := by
  rw [List.take_succ_eq_append_getElem h, List.getD_eq_getElem?_getD, List.getElem?_eq_getElem h]; rfl
/-- From the top down alike as far as k: what is less below is less. -/
theorem top_alike {a b : List Int} (k : Nat) (hl : a.length = b.length) (hk : k ≤ a.length) (he : ∀ i, k ≤ i → i < a.length → a.getD i 0 = b.getD i 0) : dval a - dval (a.take k) = dval b - dval (b.take k) := by
  have key : ∀ d, k + d ≤ a.length → dval (a.take (k + d)) - dval (a.take k) = dval (b.take (k + d)) - dval (b.take k) := by
    intro d
    induction d with
    | zero => intro _; simp
    | succ d ih =>
      intro h
      have := ih (by omega)
      rw [← Nat.add_assoc, take_getD a (k + d) (by omega), take_getD b (k + d) (by omega), dval_snoc, dval_snoc, he (k + d) (by omega) (by omega)]
      rw [List.length_take, List.length_take, Nat.min_eq_left (by omega), Nat.min_eq_left (by omega)]
      omega
  have h := key (a.length - k) (by omega)
  rw [show k + (a.length - k) = a.length from by omega, List.take_length] at h
  rw [hl, List.take_length] at h
  exact h
theorem part_lt {a b : List Int} (ha : Digs a) (hb : Digs b) (k : Nat) (hl : a.length = b.length) (hk : k < a.length) (he : ∀ i, k < i → i < a.length → a.getD i 0 = b.getD i 0) (hlt : a.getD k 0 < b.getD k 0) : dval a < dval b := by
  have h1 := top_alike (k + 1) hl (by omega) (fun i h => he i (by omega))
  rw [take_getD a k hk, take_getD b k (by omega), dval_snoc, dval_snoc, List.length_take, List.length_take, Nat.min_eq_left (by omega), Nat.min_eq_left (by omega)] at h1
  have h2 := dval_lt (ha.take k)
  rw [List.length_take, Nat.min_eq_left (by omega)] at h2
  have h3 := dval_nonneg (hb.take k)
  have h4 : pw k * (a.getD k 0 + 1) ≤ pw k * b.getD k 0 := Int.mul_le_mul_of_nonneg_left (by omega) (by have := pw_pos k; omega)
  rw [Int.mul_add] at h4
  omega
end Go.Proofs.Ytapnkbamilkpoaa
