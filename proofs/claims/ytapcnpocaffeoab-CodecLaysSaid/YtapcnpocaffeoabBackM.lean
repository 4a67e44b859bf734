/- What is laid is taken as it was; cut off it is not. -/
import Derived.Test.YtapcnpocaffeoabRws
import Derived.Test.YtapcnpocaffeoabWrW
namespace Go.Proofs.Ytapcnpocaffeoab
open Go.RowKit
/-- A taker takes just these bytes, whatever stands behind, and is bad at fewer of them. -/
def Takes {α : Type} (f : List UInt8 → Bool → α × List UInt8 × Bool) (B : List UInt8) (v : α) : Prop :=
  (∀ l, f (B ++ l) false = (v, l, false)) ∧ ∀ t u, B = t ++ u → u ≠ [] → (f t false).2.2 = true
/-- Once bad, bad for ever. -/
def Stays {α : Type} (f : List UInt8 → Bool → α × List UInt8 × Bool) : Prop := ∀ l, (f l true).2.2 = true
/-- Of two behind one another: a beginning of both is one of the first, or the first and one of the second. -/
theorem split_at {A B t u : List UInt8} (h : A ++ B = t ++ u) : (∃ u', A = t ++ u' ∧ u' ≠ []) ∨ ∃ t', t = A ++ t' ∧ B = t' ++ u := by
  rcases List.append_eq_append_iff.1 h with ⟨x, h1, h2⟩ | ⟨x, h1, h2⟩
  · exact .inr ⟨x, h1, h2⟩
  · by_cases hx : x = []
    · subst hx
      right
      refine ⟨[], by simpa using h1.symm, by simpa using h2.symm⟩
    · exact .inl ⟨x, h1, hx⟩
theorem take_exact (n : Nat) (o l : List UInt8) (h : o.length = n) : takeS n (o ++ l) false = (o, l, false) := by
  unfold takeS
  rw [if_neg (by rw [List.length_append]; omega)]
  simp [← h]
theorem take_few (n : Nat) (t : List UInt8) (h : t.length < n) : (takeS n t false).2.2 = true := by
  unfold takeS; rw [if_pos h]
theorem digs_val : ∀ (f n : Nat), n < 256 ^ f → (digs f n).foldl (fun a c => a * 256 + c.toNat) 0 = n
  | 0, n, h => by simp at h; subst h; rfl
  | f + 1, n, h => by
    simp only [digs]
    by_cases h0 : n = 0
    · subst h0; simp
    · rw [if_neg h0, List.foldl_append, digs_val f (n / 256) (by rw [Nat.pow_succ] at h; exact Nat.div_lt_of_lt_mul (by omega))]
      simp only [List.foldl_cons, List.foldl_nil, UInt8.toNat_ofNat']
      omega
theorem nmod_digs (n : Nat) (h : n < 18446744073709551616) : nmod (digs 8 n) = n := by
  rw [(nmod_exact _ (digs_len_le 8 n)).1]
  exact digs_val 8 n (by omega)
theorem number_takes (M n : Nat) (h : n ≤ M) (hn : n < 18446744073709551616) : Takes (numberS M) (numB n) n := by
  have hd := digs_len_le 8 n
  have hb : (UInt8.ofNat (digs 8 n).length).toNat = (digs 8 n).length := by rw [UInt8.toNat_ofNat']; omega
  constructor
  · intro l
    have h1 : takeS 1 (numB n ++ l) false = ([UInt8.ofNat (digs 8 n).length], digs 8 n ++ l, false) := take_exact 1 [UInt8.ofNat (digs 8 n).length] (digs 8 n ++ l) rfl
    have h2 : takeS (UInt8.ofNat (digs 8 n).length).toNat (digs 8 n ++ l) false = (digs 8 n, l, false) := take_exact _ _ _ hb.symm
    have h3 := numS_ok M h1 h2 (by rw [nmod_digs n hn, hb]) (by rw [nmod_digs n hn]; exact h)
    rw [nmod_digs n hn] at h3
    exact h3
  · intro t u htu hu
    rcases t with _ | ⟨c, t'⟩
    · exact (numS_bad1 M (by rfl)).2
    · unfold numB at htu
      injection htu with hc htu
      subst hc
      have h1 : takeS 1 (UInt8.ofNat (digs 8 n).length :: t') false = ([UInt8.ofNat (digs 8 n).length], t', false) := take_exact 1 [UInt8.ofNat (digs 8 n).length] t' rfl
      refine (numS_cut M h1 (take_few _ _ ?_)).2
      rw [hb, htu, show t'.append u = t' ++ u from rfl, List.length_append]
      have : 0 < u.length := List.length_pos_iff.2 hu
      omega
theorem number_stays (M : Nat) : Stays (numberS M) := fun l => (numS_bad1 M (takeS_true 1 l).2).2
theorem size_takes (most : Int) (n : Nat) (h : (n : Int) ≤ most) (hm : most ≤ 9223372036854775807) : Takes (sizeS most) (numB n) n := by
  have hs : ∀ l bd, sizeS most l bd = numberS most.toNat l bd := fun l bd => by unfold sizeS; rw [if_neg (by omega)]
  obtain ⟨h1, h2⟩ := number_takes most.toNat n (by omega) (by omega)
  exact ⟨fun l => by rw [hs]; exact h1 l, fun t u htu hu => by rw [hs]; exact h2 t u htu hu⟩
theorem size_stays (most : Int) : Stays (sizeS most) := fun l => by
  unfold sizeS
  split
  · rfl
  · exact number_stays _ l
theorem unfold_fold (z : Int) (h0 : -9223372036854775808 ≤ z) (h1 : z ≤ 9223372036854775807) : unfoldZ (foldN z) = z := by
  unfold unfoldZ foldN
  by_cases h : z < 0
  · rw [if_pos h, if_pos (by omega)]; omega
  · rw [if_neg h, if_neg (by omega)]; omega
theorem signed_takes (z : Int) (h0 : -9223372036854775808 ≤ z) (h1 : z ≤ 9223372036854775807) : Takes signedS (numB (foldN z)) z := by
  have hf := foldN_lt z h0 h1
  obtain ⟨k1, k2⟩ := number_takes 18446744073709551615 (foldN z) (by omega) hf
  refine ⟨fun l => ?_, fun t u htu hu => ?_⟩
  · unfold signedS; rw [k1 l]; simp only; rw [unfold_fold z h0 h1]
  · exact k2 t u htu hu
theorem signed_stays : Stays signedS := fun l => number_stays _ l
theorem text_takes (most : Int) (s : ByteArray) (h : (s.size : Int) ≤ most) (hm : most ≤ 9223372036854775807) : Takes (textS most) (textB s) s.data.toList := by
  have hl : s.data.toList.length = s.size := Array.length_toList
  obtain ⟨k1, k2⟩ := size_takes most s.size h hm
  refine ⟨fun l => ?_, fun t u htu hu => ?_⟩
  · unfold textS textB
    rw [List.append_assoc, k1]
    exact take_exact _ _ _ hl
  · unfold textS
    rcases split_at (show numB s.size ++ s.data.toList = t ++ u from htu) with ⟨u', h1, h2⟩ | ⟨t', h1, h2⟩
    · have := k2 t u' h1 h2
      rw [this]; exact (takeS_true _ _).2
    · rw [h1, k1]
      refine take_few _ _ ?_
      have := congrArg List.length h2
      rw [List.length_append, hl] at this
      have : 0 < u.length := List.length_pos_iff.2 hu
      simp only
      omega
theorem text_stays (most : Int) : Stays (textS most) := fun l => by
  unfold textS
  rw [size_stays most l]; exact (takeS_true _ _).2
theorem byte_takes (c : UInt8) (l : List UInt8) : byteS (c :: l) false = (c, l, false) := byteS_of (take_exact 1 [c] l rfl)
theorem ba_toList (s : ByteArray) : (⟨s.data.toList.toArray⟩ : ByteArray) = s := rfl
theorem val_takes (v : Val) (hv : vright v = true) (h0 : -9223372036854775808 ≤ v.2.1) (h1 : v.2.1 ≤ 9223372036854775807) : Takes valS (valB v) v := by
  obtain ⟨k, n, s⟩ := v
  have hvr := hv
  unfold vright at hv
  simp only at hv h0 h1
  unfold valB
  rw [if_pos hvr]
  simp only
  by_cases k1 : k = 1
  · subst k1
    rw [if_pos rfl] at hv ⊢
    have hs : s = ⟨#[]⟩ := eq_empty (of_decide_eq_true hv)
    subst hs
    obtain ⟨e1, e2⟩ := signed_takes n h0 h1
    refine ⟨fun l => ?_, fun t u htu hu => ?_⟩
    · refine valS_right (l' := l) ?_ hvr
      have hT : takeS 1 (1 :: (numB (foldN n) ++ l)) false = ([1], numB (foldN n) ++ l, false) := take_exact 1 [1] _ rfl
      have := valueS_1 hT rfl
      rw [e1] at this
      exact this
    · rcases t with _ | ⟨c, t'⟩
      · exact (valS_none (by rfl)).2
      · injection htu with hc htu
        subst hc
        have hT : takeS 1 (1 :: t') false = ([1], t', false) := take_exact 1 [1] _ rfl
        exact (valS_bad0 (by rw [valueS_1 hT rfl]; exact e2 t' u htu hu)).2
  · rw [if_neg k1] at hv ⊢
    by_cases k2 : k = 2
    · subst k2
      rw [if_pos rfl] at hv ⊢
      simp only [Bool.and_eq_true, decide_eq_true_eq] at hv
      obtain ⟨rfl, hs⟩ := hv
      obtain ⟨e1, e2⟩ := text_takes 200 s (by omega) (by omega)
      refine ⟨fun l => ?_, fun t u htu hu => ?_⟩
      · refine valS_right (l' := l) ?_ hvr
        have hT : takeS 1 (2 :: (textB s ++ l)) false = ([2], textB s ++ l, false) := take_exact 1 [2] _ rfl
        have := valueS_2 hT rfl
        rw [e1] at this
        exact this
      · rcases t with _ | ⟨c, t'⟩
        · exact (valS_none (by rfl)).2
        · injection htu with hc htu
          subst hc
          have hT : takeS 1 (2 :: t') false = ([2], t', false) := take_exact 1 [2] _ rfl
          exact (valS_bad0 (by rw [valueS_2 hT rfl]; exact e2 t' u htu hu)).2
    · rw [if_neg k2] at hv ⊢
      by_cases k3 : k = 3
      · subst k3
        rw [if_pos rfl] at hv
        simp only [Bool.and_eq_true, Bool.or_eq_true, decide_eq_true_eq] at hv
        obtain ⟨hn, hs⟩ := hv
        have hs' : s = ⟨#[]⟩ := eq_empty hs
        subst hs'
        have hb : ((UInt8.ofNat n.toNat).toNat : Int) = n := by rw [UInt8.toNat_ofNat']; omega
        refine ⟨fun l => ?_, fun t u htu hu => ?_⟩
        · refine valS_right (l' := l) ?_ hvr
          have hT : takeS 1 (3 :: (UInt8.ofNat n.toNat :: l)) false = ([3], UInt8.ofNat n.toNat :: l, false) := take_exact 1 [3] _ rfl
          have := valueS_3 hT rfl
          rw [byte_takes] at this
          simp only [hb] at this
          exact this
        · rcases t with _ | ⟨c, t'⟩
          · exact (valS_none (by rfl)).2
          · injection htu with hc htu
            subst hc
            have ht' : t' = [] := by
              rcases t' with _ | ⟨d, t''⟩
              · rfl
              · injection htu with _ htu
                have := congrArg List.length htu
                rw [show t''.append u = t'' ++ u from rfl, List.length_append] at this
                have : 0 < u.length := List.length_pos_iff.2 hu
                simp at *
                omega
            subst ht'
            have hT : takeS 1 [3] false = ([3], [], false) := take_exact 1 [3] [] rfl
            exact (valS_bad0 (by rw [valueS_3 hT rfl]; rfl)).2
      · rw [if_neg k3] at hv; cases hv
theorem val_stays : Stays valS := fun l => (valS_none (takeS_true 1 l).2).2
theorem vals_takes : ∀ (vs : List (Val)), (∀ v ∈ vs, vright v = true ∧ -9223372036854775808 ≤ v.2.1 ∧ v.2.1 ≤ 9223372036854775807) → Takes (valsS vs.length) (vs.flatMap valB) vs
  | [], _ => ⟨fun l => rfl, fun t u htu hu => by
      have := congrArg List.length htu
      rw [List.length_append] at this
      have h0 : 0 < u.length := List.length_pos_iff.2 hu
      simp at this
      omega⟩
  | v :: vs, h => by
    obtain ⟨a1, a2⟩ := (fun h => val_takes v h.1 h.2.1 h.2.2) (h v (List.mem_cons_self ..))
    obtain ⟨b1, b2⟩ := vals_takes vs (fun v hv => h v (List.mem_cons_of_mem _ hv))
    refine ⟨fun l => ?_, fun t u htu hu => ?_⟩
    · rw [List.flatMap_cons, List.append_assoc, List.length_cons, valsS_good, a1]
      simp only
      rw [b1]
    · rw [List.length_cons, valsS_good]
      simp only
      rw [List.flatMap_cons] at htu
      rcases split_at htu with ⟨u', h1, h2⟩ | ⟨t', h1, h2⟩
      · rw [a2 t u' h1 h2, valsS_bad]
      · rw [h1, a1]
        exact b2 t' u h2 hu
theorem row_takes (most : Int) (vs : List (Val)) (hv : ∀ v ∈ vs, vright v = true ∧ -9223372036854775808 ≤ v.2.1 ∧ v.2.1 ≤ 9223372036854775807) (h : (vs.length : Int) ≤ most) (hm : most ≤ 9223372036854775807) : Takes (rowS most) (rowB vs) vs := by
  obtain ⟨a1, a2⟩ := size_takes most vs.length h hm
  obtain ⟨b1, b2⟩ := vals_takes vs hv
  have hq : ∀ l, (rowS most l false).2.2 = (valsS (sizeS most l false).1 (sizeS most l false).2.1 (sizeS most l false).2.2).2.2 := fun l => by
    unfold rowS
    simp only
    split
    · rename_i h; rw [h]
    · rfl
  refine ⟨fun l => ?_, fun t u htu hu => ?_⟩
  · unfold rowS rowB
    rw [List.append_assoc, a1]
    simp only
    rw [show valsS vs.length (valsB vs ++ l) false = (vs, l, false) from b1 l]
    rfl
  · rw [hq]
    rcases split_at (show numB vs.length ++ vs.flatMap valB = t ++ u from htu) with ⟨u', h1, h2⟩ | ⟨t', h1, h2⟩
    · rw [a2 t u' h1 h2, valsS_bad]
    · rw [h1, a1]
      exact b2 t' u h2 hu
theorem row_stays (most : Int) : Stays (rowS most) := fun l => by
  have hs := size_stays most l
  unfold rowS
  simp only
  rw [hs, valsS_bad]
  rfl
theorem rows_takes (cols : Int) (hc : cols ≤ 9223372036854775807) : ∀ (vs : List (List Val)), (∀ v ∈ vs, (∀ x ∈ v, vright x = true ∧ -9223372036854775808 ≤ x.2.1 ∧ x.2.1 ≤ 9223372036854775807) ∧ (v.length : Int) ≤ cols) → Takes (rowsLS cols vs.length) (vs.flatMap rowB) vs
  | [], _ => ⟨fun l => rfl, fun t u htu hu => by
      have := congrArg List.length htu
      rw [List.length_append] at this
      have h0 : 0 < u.length := List.length_pos_iff.2 hu
      simp at this
      omega⟩
  | v :: vs, h => by
    obtain ⟨a1, a2⟩ := (fun h => row_takes cols v h.1 h.2 hc) (h v (List.mem_cons_self ..))
    obtain ⟨b1, b2⟩ := rows_takes cols hc vs (fun v hv => h v (List.mem_cons_of_mem _ hv))
    refine ⟨fun l => ?_, fun t u htu hu => ?_⟩
    · rw [List.flatMap_cons, List.append_assoc, List.length_cons, rowsLS_good, a1]
      simp only
      rw [b1]
    · rw [List.length_cons, rowsLS_good]
      simp only
      rw [List.flatMap_cons] at htu
      rcases split_at htu with ⟨u', h1, h2⟩ | ⟨t', h1, h2⟩
      · rw [a2 t u' h1 h2, rowsLS_bad]
      · rw [h1, a1]
        exact b2 t' u h2 hu
theorem rowss_takes (most cols : Int) (hc : cols ≤ 9223372036854775807) (vs : List (List Val)) (hv : ∀ v ∈ vs, (∀ x ∈ v, vright x = true ∧ -9223372036854775808 ≤ x.2.1 ∧ x.2.1 ≤ 9223372036854775807) ∧ (v.length : Int) ≤ cols) (h : (vs.length : Int) ≤ most) (hm : most ≤ 9223372036854775807) : Takes (rowsS most cols) (rowsB vs) vs := by
  obtain ⟨a1, a2⟩ := size_takes most vs.length h hm
  obtain ⟨b1, b2⟩ := rows_takes cols hc vs hv
  have hq : ∀ l, (rowsS most cols l false).2.2 = (rowsLS cols (sizeS most l false).1 (sizeS most l false).2.1 (sizeS most l false).2.2).2.2 := fun l => by
    unfold rowsS
    simp only
    split
    · rename_i h; rw [h]
    · rfl
  refine ⟨fun l => ?_, fun t u htu hu => ?_⟩
  · unfold rowsS rowsB
    rw [List.append_assoc, a1]
    simp only
    rw [b1]
    rfl
  · rw [hq]
    rcases split_at (show numB vs.length ++ vs.flatMap rowB = t ++ u from htu) with ⟨u', h1, h2⟩ | ⟨t', h1, h2⟩
    · rw [a2 t u' h1 h2, rowsLS_bad]
    · rw [h1, a1]
      exact b2 t' u h2 hu
theorem rowss_stays (most cols : Int) : Stays (rowsS most cols) := fun l => by
  have hs := size_stays most l
  unfold rowsS
  simp only
  rw [hs, rowsLS_bad]
  rfl
end Go.Proofs.Ytapcnpocaffeoab
