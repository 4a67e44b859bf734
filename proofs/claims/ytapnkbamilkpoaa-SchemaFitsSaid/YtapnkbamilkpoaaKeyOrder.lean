/- Keys stand as their rows stand. No walk. -/
import Derived.Test.YtapnkbamilkpoaaNum8
import Derived.Test.YtapnkbamilkpoaaRowsC
import Derived.Test.YtapnkbamilkpoaaSame
namespace Go.Proofs.Ytapnkbamilkpoaa
open Go.RowKit
/-- At the first byte where they are unlike, the first is less. -/
def Dif (x y : List UInt8) : Prop := ∃ p c d s t, x = p ++ c :: s ∧ y = p ++ d :: t ∧ c < d
theorem Dif.cons {x y : List UInt8} (h : Dif x y) (a : UInt8) : Dif (a :: x) (a :: y) := by
  obtain ⟨p, c, d, s, t, rfl, rfl, h⟩ := h
  exact ⟨a :: p, c, d, s, t, rfl, rfl, h⟩
theorem Dif.pre {x y : List UInt8} (h : Dif x y) (q : List UInt8) : Dif (q ++ x) (q ++ y) := by
  obtain ⟨p, c, d, s, t, rfl, rfl, h⟩ := h
  exact ⟨q ++ p, c, d, s, t, by simp, by simp, h⟩
theorem Dif.post {x y : List UInt8} (h : Dif x y) (r q : List UInt8) : Dif (x ++ r) (y ++ q) := by
  obtain ⟨p, c, d, s, t, rfl, rfl, h⟩ := h
  exact ⟨p, c, d, s ++ r, t ++ q, by simp, by simp, h⟩
theorem Dif.head {c d : UInt8} (s t : List UInt8) (h : c < d) : Dif (c :: s) (d :: t) := ⟨[], c, d, s, t, rfl, rfl, h⟩
theorem less_same : ∀ p x y : List UInt8, Op.bytesLess (p ++ x) (p ++ y) = Op.bytesLess x y
  | [], _, _ => rfl
  | a :: p, x, y => by
    have : ¬ a < a := UInt8.lt_irrefl a
    simp [Op.bytesLess, this, less_same p x y]
theorem Dif.less {x y : List UInt8} (h : Dif x y) : Op.bytesLess x y = true := by
  obtain ⟨p, c, d, s, t, rfl, rfl, h⟩ := h
  rw [less_same]; simp [Op.bytesLess, h]
theorem Dif.more {x y : List UInt8} (h : Dif x y) : Op.bytesLess y x = false := by
  obtain ⟨p, c, d, s, t, rfl, rfl, h⟩ := h
  have h1 : ¬ d < c := fun h' => by rw [UInt8.lt_iff_toNat_lt] at h h'; omega
  have h2 : ¬ d = c := fun e => by subst e; exact UInt8.lt_irrefl _ h
  rw [less_same]; simp [Op.bytesLess, h1, h2]
theorem Dif.no_pre {x y : List UInt8} (h : Dif x y) : y.take x.length ≠ x ∧ x.take y.length ≠ y := by
  obtain ⟨p, c, d, s, t, rfl, rfl, h⟩ := h
  have h2 : ¬ d = c := fun e => by subst e; exact UInt8.lt_irrefl _ h
  have key : ∀ (p : List UInt8) (c d : UInt8) (s t : List UInt8), ¬ d = c → (p ++ d :: t).take (p ++ c :: s).length ≠ p ++ c :: s := by
    intro p c d s t hne e
    have := congrArg (fun l => l[p.length]?) e
    simp at this
    exact hne this
  exact ⟨key p c d s t h2, key p d c t s (fun e => h2 e.symm)⟩
theorem num8_cons (c : UInt8) (x : List UInt8) : num8 (c :: x) = c.toNat * 256 ^ x.length + num8 x := by
  have key : ∀ (x : List UInt8) (a : Nat), x.foldl (fun a c => a * 256 + c.toNat) a = a * 256 ^ x.length + num8 x := by
    intro x
    induction x with
    | nil => intro a; simp [num8]
    | cons d x ih =>
      intro a
      have e : num8 (d :: x) = d.toNat * 256 ^ x.length + num8 x := by
        show x.foldl _ (0 * 256 + d.toNat) = _
        rw [ih]; simp
      rw [e]
      show x.foldl _ (a * 256 + d.toNat) = _
      rw [ih, List.length_cons, Nat.pow_succ]
      grind
  show x.foldl _ (0 * 256 + c.toNat) = _
  rw [key]; simp
theorem num8_dif : ∀ x y : List UInt8, x.length = y.length → num8 x < num8 y → Dif x y
  | [], [], _, h => absurd h (Nat.lt_irrefl _)
  | [], _ :: _, hl, _ => by simp at hl
  | _ :: _, [], hl, _ => by simp at hl
  | c :: x, d :: y, hl, h => by
    have hl' : x.length = y.length := by simpa using hl
    rw [num8_cons, num8_cons, hl'] at h
    by_cases hcd : c = d
    · subst hcd
      exact (num8_dif x y hl' (by omega)).cons c
    · refine Dif.head _ _ ?_
      rw [UInt8.lt_iff_toNat_lt]
      refine Decidable.byContradiction fun hn => ?_
      have hne : c.toNat ≠ d.toNat := fun e => hcd (UInt8.toNat_inj.1 e)
      have hy := num8_lt y.length y rfl
      have h3 : (d.toNat + 1) * 256 ^ y.length ≤ c.toNat * 256 ^ y.length := Nat.mul_le_mul_right _ (by omega)
      rw [Nat.add_mul] at h3
      omega
theorem esc_cons (c : UInt8) (t : List UInt8) : esc (c :: t) = (if c = 0 then [0, 255] else [c]) ++ esc t := by simp [esc]
theorem esc_dif : ∀ x y : List UInt8, Op.bytesLess x y = true → Dif (esc x ++ [0, 1]) (esc y ++ [0, 1])
  | _, [], h => by simp [Op.bytesLess] at h
  | [], d :: y, _ => by
    rw [esc_cons]
    by_cases hd : d = 0
    · subst hd
      exact (Dif.head [] (esc y ++ [0, 1]) (show (1 : UInt8) < 255 by decide)).cons 0
    · rw [if_neg hd]
      refine Dif.head _ _ ?_
      rw [UInt8.lt_iff_toNat_lt]
      have : d.toNat ≠ 0 := fun e => hd (UInt8.toNat_inj.1 e)
      show 0 < d.toNat
      omega
  | c :: x, d :: y, h => by
    rw [esc_cons, esc_cons, List.append_assoc, List.append_assoc]
    simp only [Op.bytesLess, Bool.or_eq_true, Bool.and_eq_true, decide_eq_true_eq, beq_iff_eq] at h
    rcases h with h | ⟨rfl, h⟩
    · have hd : ¬ d = 0 := fun e => by subst e; rw [UInt8.lt_iff_toNat_lt] at h; exact absurd h (by simp)
      rw [if_neg hd]
      by_cases hc : c = 0
      · rw [if_pos hc]; subst hc; exact Dif.head _ _ h
      · rw [if_neg hc]; exact Dif.head _ _ h
    · exact (esc_dif x y h).pre _
theorem bl_irrefl : ∀ x : List UInt8, Op.bytesLess x x = false
  | [] => rfl
  | a :: x => by
    have : ¬ a < a := UInt8.lt_irrefl a
    simp [Op.bytesLess, this, bl_irrefl x]
theorem vkey_dif (u v : Val) (hu : vright u = true) (hv : vright v = true) (hu0 : -9223372036854775808 ≤ u.2.1 ∧ u.2.1 ≤ 9223372036854775807) (hv0 : -9223372036854775808 ≤ v.2.1 ∧ v.2.1 ≤ 9223372036854775807) (h : rless u v = true) : Dif (vkey u) (vkey v) := by
  obtain ⟨k, n, s⟩ := u
  obtain ⟨k', n', s'⟩ := v
  unfold vright at hu hv
  unfold rless at h
  simp only at hu hv hu0 hv0 h
  have hk : k = 1 ∨ k = 2 ∨ k = 3 := by
    by_cases k1 : k = 1
    · exact .inl k1
    · by_cases k2 : k = 2
      · exact .inr (.inl k2)
      · by_cases k3 : k = 3
        · exact .inr (.inr k3)
        · rw [if_neg k1, if_neg k2, if_neg k3] at hu; cases hu
  have hk' : k' = 1 ∨ k' = 2 ∨ k' = 3 := by
    by_cases k1 : k' = 1
    · exact .inl k1
    · by_cases k2 : k' = 2
      · exact .inr (.inl k2)
      · by_cases k3 : k' = 3
        · exact .inr (.inr k3)
        · rw [if_neg k1, if_neg k2, if_neg k3] at hv; cases hv
  rcases hk with rfl | rfl | rfl <;> rcases hk' with rfl | rfl | rfl <;> simp at h hu hv
  · -- numbers
    have e : s = s' := by rw [hu, hv]
    subst e
    have hn : n < n' := by
      by_cases hn : n = n'
      · rw [if_pos hn, bl_irrefl] at h; cases h
      · rw [if_neg hn] at h; simpa using h
    have e1 : vkey (1, n, s) = 1 :: be8 (n + 9223372036854775808).toNat := rfl
    have e2 : vkey (1, n', s) = 1 :: be8 (n' + 9223372036854775808).toNat := rfl
    rw [e1, e2]
    refine Dif.cons (num8_dif (be8 (n + 9223372036854775808).toNat) (be8 (n' + 9223372036854775808).toNat) rfl ?_) 1
    rw [num8_be8 _ (by omega), num8_be8 _ (by omega)]
    omega
  · exact Dif.head _ _ (by decide)
  · exact Dif.head _ _ (by decide)
  · obtain ⟨rfl, _⟩ := hu
    obtain ⟨rfl, _⟩ := hv
    rw [if_pos rfl] at h
    have e1 : vkey (2, 0, s) = 2 :: (esc s.data.toList ++ [0, 1]) := rfl
    have e2 : vkey (2, 0, s') = 2 :: (esc s'.data.toList ++ [0, 1]) := rfl
    rw [ByteArray.toList_eq, ByteArray.toList_eq] at h
    rw [e1, e2]
    exact (esc_dif _ _ h).cons 2
  · exact Dif.head _ _ (by decide)
  · obtain ⟨hn, hs⟩ := hu
    obtain ⟨hn', hs'⟩ := hv
    subst hs hs'
    rcases hn with rfl | rfl <;> rcases hn' with rfl | rfl
    · rw [if_pos rfl, bl_irrefl] at h; cases h
    · exact (Dif.head [] [] (show (0 : UInt8) < 1 by decide)).cons 3
    · simp at h
    · rw [if_pos rfl, bl_irrefl] at h; cases h
theorem rless_eq (u v : Val) (h1 : rless u v = false) (h2 : rless v u = false) : u = v := by
  obtain ⟨k, n, s⟩ := u
  obtain ⟨k', n', s'⟩ := v
  unfold rless at h1 h2
  simp only at h1 h2
  by_cases hk : k = k'
  · subst hk
    simp only [if_true] at h1 h2
    by_cases hn : n = n'
    · subst hn
      simp only [if_true] at h1 h2
      rw [bl_tri _ _ h1] at h2
      have e : s.toList = s'.toList := by simpa using h2
      have : s = s' := Decidable.byContradiction fun hne => list_ne hne e
      rw [this]
    · rw [if_neg hn] at h1; rw [if_neg (fun e => hn e.symm)] at h2
      simp at h1 h2; omega
  · rw [if_neg hk] at h1; rw [if_neg (fun e => hk e.symm)] at h2
    simp at h1 h2; omega
/-- Rows, compared, against their keys. -/
theorem keys_cmp : ∀ a b : List Val, a.all vright = true → b.all vright = true → ValsOk a → ValsOk b →
    (vrows a b = -1 ∧ (Dif (vkeys a) (vkeys b) ∨ ∃ v r, b = a ++ v :: r)) ∨ (vrows a b = 0 ∧ a = b) ∨ (vrows a b = 1 ∧ (Dif (vkeys b) (vkeys a) ∨ ∃ v r, a = b ++ v :: r))
  | [], [], _, _, _, _ => .inr (.inl ⟨rfl, rfl⟩)
  | [], v :: r, _, _, _, _ => .inl ⟨rfl, .inr ⟨v, r, rfl⟩⟩
  | v :: r, [], _, _, _, _ => .inr (.inr ⟨rfl, .inr ⟨v, r, rfl⟩⟩)
  | u :: a, v :: b, ha, hb, oa, ob => by
    simp only [List.all_cons, Bool.and_eq_true] at ha hb
    have hu := (oa u (by simp)).2.1
    have hv := (ob v (by simp)).2.1
    have e1 : vkeys (u :: a) = vkey u ++ vkeys a := by simp [vkeys]
    have e2 : vkeys (v :: b) = vkey v ++ vkeys b := by simp [vkeys]
    have e3 : vrows (u :: a) (v :: b) = if vcmp u v = 0 then vrows a b else vcmp u v := rfl
    rw [e1, e2, e3, vcmp_less]
    cases h1 : rless u v with
    | true => exact .inl ⟨by simp, .inl ((vkey_dif u v ha.1 hb.1 hu hv h1).post _ _)⟩
    | false =>
      cases h2 : rless v u with
      | true => exact .inr (.inr ⟨by simp, .inl ((vkey_dif v u hb.1 ha.1 hv hu h2).post _ _)⟩)
      | false =>
        have := rless_eq u v h1 h2
        subst this
        simp only [Bool.false_eq_true, if_false, if_true]
        rcases keys_cmp a b ha.2 hb.2 (fun x hx => oa x (by simp [hx])) (fun x hx => ob x (by simp [hx])) with ⟨h, h'⟩ | ⟨h, rfl⟩ | ⟨h, h'⟩
        · refine .inl ⟨h, ?_⟩
          rcases h' with h' | ⟨x, r, rfl⟩
          · exact .inl (h'.pre _)
          · exact .inr ⟨x, r, rfl⟩
        · exact .inr (.inl ⟨h, rfl⟩)
        · refine .inr (.inr ⟨h, ?_⟩)
          rcases h' with h' | ⟨x, r, rfl⟩
          · exact .inl (h'.pre _)
          · exact .inr ⟨x, r, rfl⟩
end Go.Proofs.Ytapnkbamilkpoaa
