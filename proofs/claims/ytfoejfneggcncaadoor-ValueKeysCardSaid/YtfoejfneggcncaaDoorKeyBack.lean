/- A right row's key, read back, is that row. No walk. -/
import Derived.Test.YtfoejfneggcncaaDoorUnkey
namespace Go.Proofs.YtfoejfneggcncaaDoor
open Go.RowKit
theorem unesc_esc : ∀ (l r : List UInt8), unesc (esc l ++ 0 :: 1 :: r) = some (l, r)
  | [], r => by rw [show esc [] = [] from rfl, List.nil_append, unesc_zero]; simp
  | c :: t, r => by
    have ih := unesc_esc t r
    by_cases hc : c = 0
    · subst hc
      have e : esc (0 :: t) = 0 :: 255 :: esc t := by simp [esc]
      rw [e, List.cons_append, List.cons_append, unesc_zero]
      simp [ih]
    · have e : esc (c :: t) = c :: esc t := by simp [esc, hc]
      rw [e, List.cons_append, unesc_ne c _ hc, ih]; rfl
theorem num8_be8 (u : Nat) (h : u < 18446744073709551616) : num8 (be8 u) = u := by
  simp [num8, be8]
  omega
theorem vcut_int (r : List UInt8) (h : 8 ≤ r.length) : vcut (1 :: r) = some ((1, (num8 (r.take 8) : Int) - 9223372036854775808, ⟨#[]⟩), r.drop 8) := by simp [vcut, h]
theorem vcut_text (r : List UInt8) : vcut (2 :: r) = (unesc r).map fun p => ((2, 0, ⟨p.1.toArray⟩), p.2) := by simp [vcut]
theorem vcut_key (v : Val) (r : List UInt8) (hv : vright v = true) (h0 : -9223372036854775808 ≤ v.2.1) (h1 : v.2.1 ≤ 9223372036854775807) : vcut (vkey v ++ r) = some (v, r) := by
  obtain ⟨k, n, s⟩ := v
  simp only at h0 h1
  unfold vright at hv
  simp only at hv
  by_cases k1 : k = 1
  · subst k1
    simp only [if_true] at hv
    have hs : s = ⟨#[]⟩ := ba_eq s [] (by have : s.size = 0 := by simpa using hv
                                          rw [Lib.size_eq] at this; exact List.length_eq_zero_iff.1 this)
    subst hs
    have e : vkey (1, n, ⟨#[]⟩) = 1 :: be8 (n + 9223372036854775808).toNat := rfl
    have hl : (be8 (n + 9223372036854775808).toNat).length = 8 := rfl
    rw [e, List.cons_append]
    rw [vcut_int _ (by rw [List.length_append, hl]; omega), List.take_left' hl, List.drop_left' hl, num8_be8 _ (by omega)]
    rw [show (((n + 9223372036854775808).toNat : Int) - 9223372036854775808) = n by omega]
  · rw [if_neg k1] at hv
    by_cases k2 : k = 2
    · subst k2
      simp at hv
      have hn : n = 0 := hv.1
      subst hn
      have e : vkey (2, 0, s) = 2 :: (esc s.data.toList ++ [0, 1]) := rfl
      rw [e, List.cons_append, List.append_assoc]
      rw [vcut_text]
      have := unesc_esc s.data.toList r
      simp only [List.cons_append, List.nil_append]
      rw [this]
      simp
    · rw [if_neg k2] at hv
      by_cases k3 : k = 3
      · subst k3
        simp at hv
        obtain ⟨hn, hs⟩ := hv
        subst hs
        rcases hn with rfl | rfl <;> rfl
      · rw [if_neg k3] at hv; cases hv
theorem unk_keys : ∀ (n : Nat) (vs : List Val), vs.all vright = true → ValsOk vs → vs.length ≤ n → unk n (vkeys vs) = some vs
  | n, [], _, _, _ => unk_nil n
  | 0, v :: t, _, _, h => by simp at h
  | n + 1, v :: t, ha, hok, hl => by
    simp only [List.all_cons, Bool.and_eq_true] at ha
    have hv := hok v (by simp)
    have hc := vcut_key v (vkeys t) ha.1 hv.2.1.1 hv.2.1.2
    have ih := unk_keys n t ha.2 (fun u hu => hok u (by simp [hu])) (by simpa using hl)
    have e : vkeys (v :: t) = vkey v ++ vkeys t := by simp [vkeys]
    rw [e]
    cases hk : vkey v ++ vkeys t with
    | nil => rw [hk] at hc; cases hc
    | cons k r =>
      rw [hk] at hc
      simp only [unk]
      rw [hc]
      simp only [ha.1, if_true]
      rw [ih]; rfl
end Go.Proofs.YtfoejfneggcncaaDoor
