/- The document's way back from a key: which value it tries; it answers as unk. No walk. -/
import Derived.Test.YtfoejfneggcncaaDoorKeyBack
namespace Go.Proofs.YtfoejfneggcncaaDoor
open Go.RowKit
/-- The text that is tried: up to 00 01, of any other pair behind 00 the 00. -/
def rscan : List UInt8 → List UInt8
  | c :: d :: t => if c = 0 then (if d = 1 then [] else 0 :: rscan t) else c :: rscan (d :: t)
  | _ => []
/-- The value that is tried. -/
def cand (k : UInt8) (r : List UInt8) : Option Val :=
  if k = 1 ∧ 8 ≤ r.length then some (1, (num8 (r.take 8) : Int) - 9223372036854775808, ⟨#[]⟩)
  else if k = 2 then some (2, 0, ⟨(rscan r).toArray⟩)
  else if k = 3 then (match r with | [] => none | d :: _ => some (3, (d.toNat : Int), ⟨#[]⟩))
  else none
theorem rscan_esc : ∀ (p q : List UInt8), rscan (esc p ++ 0 :: 1 :: q) = p
  | [], q => by simp [esc, rscan]
  | c :: p, q => by
    by_cases hc : c = 0
    · subst hc
      have e : esc (0 :: p) = 0 :: 255 :: esc p := by simp [esc]
      rw [e]
      show (if (0 : UInt8) = 0 then (if (255 : UInt8) = 1 then [] else 0 :: rscan (esc p ++ 0 :: 1 :: q)) else _) = _
      rw [if_pos rfl, if_neg (by decide), rscan_esc p q]
    · have e : esc (c :: p) = c :: esc p := by simp [esc, hc]
      rw [e]
      have ih := rscan_esc p q
      cases h : esc p ++ 0 :: 1 :: q with
      | nil => simp at h
      | cons d t =>
        rw [h] at ih
        rw [List.cons_append, h]
        show (if c = 0 then _ else c :: rscan (d :: t)) = _
        rw [if_neg hc, ih]
theorem unesc_inv : ∀ (n : Nat) (l p q : List UInt8), l.length ≤ n → unesc l = some (p, q) → l = esc p ++ 0 :: 1 :: q
  | _, [], p, q, _, h => by simp [unesc] at h
  | 0, c :: l, p, q, hn, h => by simp at hn
  | n + 1, c :: l, p, q, hn, h => by
    simp only [List.length_cons] at hn
    by_cases hc : c = 0
    · subst hc
      rw [unesc_zero] at h
      cases l with
      | nil => simp at h
      | cons d t =>
        simp only at h
        by_cases h1 : d = 1
        · subst h1
          rw [if_pos rfl] at h
          injection h with h
          injection h with e1 e2
          subst e1; subst e2
          simp [esc]
        · rw [if_neg h1] at h
          by_cases h2 : d = 255
          · subst h2
            rw [if_pos rfl] at h
            cases hu : unesc t with
            | none => rw [hu] at h; simp at h
            | some x =>
              obtain ⟨x1, x2⟩ := x
              rw [hu] at h
              simp at h
              obtain ⟨e1, e2⟩ := h
              subst e1; subst e2
              have ih := unesc_inv n t x1 x2 (by simp at hn; omega) hu
              rw [ih]; simp [esc]
          · rw [if_neg h2] at h; simp at h
    · rw [unesc_ne c l hc] at h
      cases hu : unesc l with
      | none => rw [hu] at h; simp at h
      | some x =>
        obtain ⟨x1, x2⟩ := x
        rw [hu] at h
        simp at h
        obtain ⟨e1, e2⟩ := h
        subst e1; subst e2
        have ih := unesc_inv n l x1 x2 (by omega) hu
        have e : esc (c :: x1) = c :: esc x1 := by simp [esc, hc]
        rw [e, List.cons_append, ← ih]
theorem be8_num8 (l : List UInt8) (h : l.length = 8) : be8 (num8 l) = l := by
  match l, h with
  | [a, b, c, d, e, f, g, i], _ =>
    have := a.toNat_lt; have := b.toNat_lt; have := c.toNat_lt; have := d.toNat_lt
    have := e.toNat_lt; have := f.toNat_lt; have := g.toNat_lt; have := i.toNat_lt
    simp only [be8, num8, List.foldl_cons, List.foldl_nil, List.cons.injEq, and_true]
    refine ⟨?_, ?_, ?_, ?_, ?_, ?_, ?_, ?_⟩ <;> (apply UInt8.toNat_inj.1; simp only [UInt8.toNat_ofNat']; omega)
/-- What is cut off by a key is a right value's key; the document tries that value. -/
theorem vcut_some (k : UInt8) (r : List UInt8) (v : Val) (rest : List UInt8) (h : vcut (k :: r) = some (v, rest)) (hv : vright v = true) : k :: r = vkey v ++ rest ∧ cand k r = some v := by
  by_cases k1 : k = 1
  · subst k1
    by_cases h8 : 8 ≤ r.length
    · rw [vcut_int r h8] at h
      injection h with h
      injection h with e1 e2
      subst e1; subst e2
      refine ⟨?_, by unfold cand; rw [if_pos ⟨rfl, h8⟩]⟩
      have hl := num8_lt 8 (r.take 8) (by rw [List.length_take]; omega)
      have e : vkey (1, (num8 (r.take 8) : Int) - 9223372036854775808, ⟨#[]⟩) = 1 :: be8 (num8 (r.take 8)) := by
        unfold vkey
        rw [if_pos rfl]
        simp only
        rw [show ((num8 (r.take 8) : Int) - 9223372036854775808 + 9223372036854775808).toNat = num8 (r.take 8) by omega]
      rw [e, be8_num8 _ (by rw [List.length_take]; omega), List.cons_append, List.take_append_drop]
    · exfalso
      unfold vcut at h
      simp [h8] at h
  · by_cases k2 : k = 2
    · subst k2
      rw [vcut_text] at h
      cases hu : unesc r with
      | none => rw [hu] at h; simp at h
      | some x =>
        obtain ⟨p, q⟩ := x
        rw [hu] at h
        simp at h
        obtain ⟨e1, e2⟩ := h
        subst e1; subst e2
        have hr := unesc_inv r.length r p q (Nat.le_refl _) hu
        refine ⟨?_, ?_⟩
        · have e : vkey (2, 0, ⟨p.toArray⟩) = 2 :: (esc p ++ [0, 1]) := rfl
          rw [e, hr]; simp
        · unfold cand
          rw [if_neg (by simp), if_pos rfl, hr, rscan_esc]
    · by_cases k3 : k = 3
      · subst k3
        cases r with
        | nil => simp [vcut] at h
        | cons d t =>
          have h' : some (((3 : Int), (d.toNat : Int), (⟨#[]⟩ : ByteArray)), t) = some (v, rest) := by rw [← h]; rfl
          injection h' with h'
          injection h' with e1 e2
          subst e1; subst e2
          refine ⟨?_, by unfold cand; rw [if_neg (by simp), if_neg (by decide), if_pos rfl]⟩
          have e : vkey (3, (d.toNat : Int), ⟨#[]⟩) = [3, UInt8.ofNat d.toNat] := rfl
          rw [e]
          simp
      · exfalso
        unfold vcut at h
        simp [k1, k2, k3] at h
theorem cand_bound (k : UInt8) (r : List UInt8) (v : Val) (h : cand k r = some v) : -9223372036854775808 ≤ v.2.1 ∧ v.2.1 ≤ 9223372036854775807 := by
  unfold cand at h
  split at h
  · injection h with h
    subst h
    rename_i hh
    have hl := num8_lt 8 (r.take 8) (by rw [List.length_take]; omega)
    simp only
    omega
  · split at h
    · injection h with h; subst h; simp
    · split at h
      · cases r with
        | nil => cases h
        | cons d t => injection h with h; subst h; have := d.toNat_lt; simp only; omega
      · cases h
/-- One round of the document's way back. -/
theorem ref_cut (k : UInt8) (r : List UInt8) :
    (∃ v rest, vcut (k :: r) = some (v, rest) ∧ vright v = true ∧ cand k r = some v ∧ k :: r = vkey v ++ rest) ∨
    ((∀ v rest, vcut (k :: r) = some (v, rest) → vright v = false) ∧ ∀ v, cand k r = some v → vright v = true → ∀ rest, k :: r ≠ vkey v ++ rest) := by
  cases hc : vcut (k :: r) with
  | none =>
    right
    refine ⟨(fun v rest h => by cases h), fun v hv hr rest e => ?_⟩
    have hb := cand_bound k r v hv
    have := vcut_key v rest hr hb.1 hb.2
    rw [← e, hc] at this
    cases this
  | some x =>
    obtain ⟨v, rest⟩ := x
    cases hv : vright v with
    | true => exact .inl ⟨v, rest, rfl, hv, (vcut_some k r v rest hc hv).2, (vcut_some k r v rest hc hv).1⟩
    | false =>
      right
      refine ⟨(fun v' rest' h => by injection h with h; injection h with h1 h2; subst h1; exact hv), fun v' hv' hr rest' e => ?_⟩
      have hb := cand_bound k r v' hv'
      have := vcut_key v' rest' hr hb.1 hb.2
      rw [← e, hc] at this
      injection this with this
      injection this with h1 h2
      subst h1
      rw [hv] at hr; cases hr
end Go.Proofs.YtfoejfneggcncaaDoor
