/- Contracts of the document's numbers: Minus, Plus. -/
import Derived.Test.YtapnkbamilkpoaaNumB
namespace Go.Proofs.Ytapnkbamilkpoaa
open Go.RowKit
theorem sgn_not {x : Bool} {V : Int} (h : x = decide (V < 0)) : sgnV (!x) (V.natAbs : Int) = -V := by
  subst h; unfold sgnV; by_cases h : V < 0 <;> simp [h] <;> omega
theorem sgn_id {x : Bool} {V : Int} (h : x = decide (V < 0)) : sgnV x (V.natAbs : Int) = V := by
  subst h; unfold sgnV; by_cases h : V < 0 <;> simp [h] <;> omega
theorem Ints.drew {k : IntKind} {w : World} {a : Option Addr} {zs : List Int} (h : Ints k w a zs) : Ints k w.drew a zs := h
set_option maxHeartbeats 2000000 in
theorem plus_same (x : Bool) (a a' : Option Addr) (n c n' c' : Nat) (V U : Int) (w : World) (h : NumP w x a n c V) (k : NumP w x a' n' c' U) (hl : n ≤ 900000) (hl' : n' ≤ 900000) :
    Calls Try.prog 51 #[.agg #[.bool x, .slice a n c], .agg #[.bool x, .slice a' n' c']] w (NumRet (Fresh w.heap.size) (V + U) w) := by
  obtain ⟨hx, ds, hn, hc, hz, hcn, hv⟩ := h
  obtain ⟨hx', ds', hn', hc', hz', hcn', hv'⟩ := k
  have hs : sgnV x (dval ds + dval ds') = V + U := by
    rw [hv, hv']; subst hx; unfold sgnV
    have e : (V < 0) ↔ (U < 0) := by simpa using hx'
    by_cases hV : V < 0
    · have := e.1 hV; simp [hV]; omega
    · have : ¬ U < 0 := fun h => hV (e.2 h)
      simp [hV]; omega
  have HS := Lib.hid hs
  clear hs hx hx' hv hv'
  have hW : Below w.heap.size w (((w.alloc (.cells #[.bool x, .slice a n c] 81)).alloc (.cells #[.bool x, .slice a' n' c'] 81)).alloc (.cells #[.bool false, .slice none 0 0] 81)) :=
    (((Below.refl _ _).alloc (Nat.le_refl _) _).alloc (by simp) _).alloc (by simp; omega) _
  have hz3 := (hz.below hW).drew
  have hz3' := (hz'.below hW).drew
  clear hz hz'
  go_enter Try.func51, Try.ntmps51
  go_wp2_with fail
  go_region_held3 (fun w' => w'.cell? ⟨w.heap.size, 0, none⟩ = some (.bool x) ∧ w'.cell? ⟨w.heap.size, 1, none⟩ = some (.slice a n c) ∧ w'.cell? ⟨w.heap.size + 1, 0, none⟩ = some (.bool x) ∧ w'.cell? ⟨w.heap.size + 1, 1, none⟩ = some (.slice a' n' c'))
    (first | with_reducible exact ⟨k0, k1, k2, k3⟩ | with_reducible exact ⟨m0, m1, m2, m3⟩ | with_reducible exact ⟨(cell_set2 (by omega)).trans m0, (cell_set2 (by omega)).trans m1, (cell_set2 (by omega)).trans m2, (cell_set2 (by omega)).trans m3⟩ | go_keep)
    (first
      | (go_at_call 70; refine (add_dig a a' n n' c c' ds ds' _ hn hn' hz3 hz3' hcn.1 hcn'.1 (max n n') (by omega) (by omega) (by omega) (by omega)).mono ?_; rintro e w1 ⟨ra, rn, rc, rds, rfl, q1, q2, q3, q4, q5, q6, hb1, hfr⟩; obtain ⟨hc1, hf1⟩ := bcell hb1; have k0 : w1.cell? ⟨w.heap.size, 0, none⟩ = some (.bool x) := by { rw [hc1 _ _ (by simp; omega)]; go_simp }; have k1 : w1.cell? ⟨w.heap.size, 1, none⟩ = some (.slice a n c) := by { rw [hc1 _ _ (by simp; omega)]; go_simp }; have k2 : w1.cell? ⟨w.heap.size + 1, 0, none⟩ = some (.bool x) := by { rw [hc1 _ _ (by simp)]; go_simp }; have k3 : w1.cell? ⟨w.heap.size + 1, 1, none⟩ = some (.slice a' n' c') := by { rw [hc1 _ _ (by simp)]; go_simp }; have hz1 : w.heap.size + 3 ≤ w1.heap.size := by { have := hb1.size; simp at this; omega }; clear hc1 hf1)
      | (go_at_call 69; refine (sign_any x ra rn rc rds _ q1 q2 q4 (by omega) q5).mono ?_; rintro e w2 ⟨x2, a2, n2, c2, rfl, hnum, hb2, rfl⟩; obtain ⟨hc2, hf2⟩ := bcell hb2; have m0 := (hc2 w.heap.size 0 (by omega)).trans k0; have m1 := (hc2 w.heap.size 1 (by omega)).trans k1; have m2 := (hc2 (w.heap.size + 1) 0 (by omega)).trans k2; have m3 := (hc2 (w.heap.size + 1) 1 (by omega)).trans k3; clear hc2 hf2; have hB : Below (w.heap.size + 1 + 1 + 1) (((w.alloc (.cells #[.bool x, .slice a n c] 81)).alloc (.cells #[.bool x, .slice a' n' c'] 81)).alloc (.cells #[.bool false, .slice none 0 0] 81)) w2 := (Below.refl _ _).drew.trans ((hb1.trans (hb2.mono (by simp; omega))).mono (by simp)); obtain ⟨_, g0, g1, g2, g3⟩ := num_cell (by simp) hB))
  go_wp2
  rw [q6, HS.out] at hnum
  obtain ⟨r1, r2⟩ := num_store (by simp) hB hnum
  simp [bodyPost, results, Try.results51, go_sem, g0, g1]
  exact ⟨_, _, _, _, rfl, r1, (((Below.refl _ _).alloc (Nat.le_refl _) _).alloc (by simp) _).trans (r2.mono (by omega)), hfr.mono (by simp; omega)⟩
set_option maxHeartbeats 2000000 in
theorem plus_lt (x y : Bool) (hxy : (x == y) = false) (a a' : Option Addr) (n c n' c' : Nat) (V U : Int) (w : World) (h : NumP w x a n c V) (k : NumP w y a' n' c' U) (hl : n ≤ 900000) (hl' : n' ≤ 900000) (hlt : (V.natAbs : Int) < U.natAbs) :
    Calls Try.prog 51 #[.agg #[.bool x, .slice a n c], .agg #[.bool y, .slice a' n' c']] w (NumRet (Fresh w.heap.size) (V + U) w) := by
  obtain ⟨hx, ds, hn, hc, hz, hcn, hv⟩ := h
  obtain ⟨hx', ds', hn', hc', hz', hcn', hv'⟩ := k
  rw [← hv, ← hv'] at hlt
  have hs : sgnV y (dval ds' - dval ds) = V + U := by
    rw [hv, hv'] at hlt ⊢
    subst hx hx'
    unfold sgnV
    by_cases hV : V < 0 <;> by_cases hU : U < 0 <;> simp [hV, hU] at hxy ⊢ <;> omega
  have hle : n ≤ n' := by
    refine Nat.le_of_not_lt fun hgt => ?_
    have := len_lt hcn' hcn (by omega)
    omega
  have hd : decide (dval ds < dval ds') = true := by simpa using hlt
  have HS := Lib.hid hs
  clear hs hx hx' hv hv'
  have hW : Below w.heap.size w (((w.alloc (.cells #[.bool x, .slice a n c] 81)).alloc (.cells #[.bool y, .slice a' n' c'] 81)).alloc (.cells #[.bool false, .slice none 0 0] 81)) :=
    (((Below.refl _ _).alloc (Nat.le_refl _) _).alloc (by simp) _).alloc (by simp; omega) _
  have hz3 := hz.below hW
  have hz3' := hz'.below hW
  clear hz hz'
  go_enter Try.func51, Try.ntmps51
  go_wp2_with fail
  refine (less_dig a a' n n' c c' ds ds' _ hn hn' hz3 hz3' hcn hcn' (by omega) (by omega)).mono ?_
  rintro e wl ⟨rfl, hbl⟩
  have hz4 := (hz3.below hbl).drew
  have hz4' := (hz3'.below hbl).drew
  obtain ⟨hcl, hfl⟩ := bcell hbl
  have j0 : wl.cell? ⟨w.heap.size, 0, none⟩ = some (.bool x) := by rw [hcl _ _ (by simp; omega)]; go_simp
  have j1 : wl.cell? ⟨w.heap.size, 1, none⟩ = some (.slice a n c) := by rw [hcl _ _ (by simp; omega)]; go_simp
  have j2 : wl.cell? ⟨w.heap.size + 1, 0, none⟩ = some (.bool y) := by rw [hcl _ _ (by simp)]; go_simp
  have j3 : wl.cell? ⟨w.heap.size + 1, 1, none⟩ = some (.slice a' n' c') := by rw [hcl _ _ (by simp)]; go_simp
  have hzl : w.heap.size + 3 ≤ wl.heap.size := by have := hbl.size; simp at this; omega
  clear hcl hfl hz3 hz3'
  go_wp2_with fail
  go_region_held3 (fun w' => w'.cell? ⟨w.heap.size, 0, none⟩ = some (.bool x) ∧ w'.cell? ⟨w.heap.size, 1, none⟩ = some (.slice a n c) ∧ w'.cell? ⟨w.heap.size + 1, 0, none⟩ = some (.bool y) ∧ w'.cell? ⟨w.heap.size + 1, 1, none⟩ = some (.slice a' n' c'))
    (first | with_reducible exact ⟨k0, k1, k2, k3⟩ | with_reducible exact ⟨m0, m1, m2, m3⟩ | with_reducible exact ⟨(cell_set2 (by omega)).trans m0, (cell_set2 (by omega)).trans m1, (cell_set2 (by omega)).trans m2, (cell_set2 (by omega)).trans m3⟩ | go_keep)
    (first
      | (go_at_call 72; refine (sub_dig a' a n' n c' c ds' ds _ hn' hn hz4' hz4 hcn'.1 hcn.1 hle (by omega) (by omega)).mono ?_; rintro e w1 ⟨ra, rn, rc, rds, rfl, q1, q2, q3, q4, q5, q6, hb1, hfr⟩; obtain ⟨hc1, hf1⟩ := bcell hb1; have k0 := (hc1 w.heap.size 0 (show _ < wl.heap.size by omega)).trans j0; have k1 := (hc1 w.heap.size 1 (show _ < wl.heap.size by omega)).trans j1; have k2 := (hc1 (w.heap.size + 1) 0 (show _ < wl.heap.size by omega)).trans j2; have k3 := (hc1 (w.heap.size + 1) 1 (show _ < wl.heap.size by omega)).trans j3; have hz1 : wl.heap.size ≤ w1.heap.size := hb1.size; clear hc1 hf1)
      | (go_at_call 69; refine (sign_any y ra rn rc rds _ q1 q2 q4 (by omega) q5).mono ?_; rintro e w2 ⟨x2, a2, n2, c2, rfl, hnum, hb2, rfl⟩; obtain ⟨hc2, hf2⟩ := bcell hb2; have m0 := (hc2 w.heap.size 0 (by omega)).trans k0; have m1 := (hc2 w.heap.size 1 (by omega)).trans k1; have m2 := (hc2 (w.heap.size + 1) 0 (by omega)).trans k2; have m3 := (hc2 (w.heap.size + 1) 1 (by omega)).trans k3; clear hc2 hf2; have hB : Below (w.heap.size + 1 + 1 + 1) (((w.alloc (.cells #[.bool x, .slice a n c] 81)).alloc (.cells #[.bool y, .slice a' n' c'] 81)).alloc (.cells #[.bool false, .slice none 0 0] 81)) w2 := (hbl.mono (by simp)).trans ((Below.refl _ _).drew.trans ((hb1.trans (hb2.mono hz1)).mono (show _ ≤ wl.heap.size by omega))); obtain ⟨_, g0, g1, g2, g3⟩ := num_cell (by simp) hB))
  go_wp2
  rw [q6, HS.out] at hnum
  obtain ⟨r1, r2⟩ := num_store (by simp) hB hnum
  simp [bodyPost, results, Try.results51, go_sem, g0, g1]
  exact ⟨_, _, _, _, rfl, r1, (((Below.refl _ _).alloc (Nat.le_refl _) _).alloc (by simp) _).trans (r2.mono (by omega)), hfr.mono (by simp; omega)⟩
set_option maxHeartbeats 2000000 in
theorem plus_ge (x y : Bool) (hxy : (x == y) = false) (a a' : Option Addr) (n c n' c' : Nat) (V U : Int) (w : World) (h : NumP w x a n c V) (k : NumP w y a' n' c' U) (hl : n ≤ 900000) (hl' : n' ≤ 900000) (hlt : ¬ (V.natAbs : Int) < U.natAbs) :
    Calls Try.prog 51 #[.agg #[.bool x, .slice a n c], .agg #[.bool y, .slice a' n' c']] w (NumRet (Fresh w.heap.size) (V + U) w) := by
  obtain ⟨hx, ds, hn, hc, hz, hcn, hv⟩ := h
  obtain ⟨hx', ds', hn', hc', hz', hcn', hv'⟩ := k
  rw [← hv, ← hv'] at hlt
  have hs : sgnV x (dval ds - dval ds') = V + U := by
    rw [hv, hv'] at hlt ⊢
    subst hx hx'
    unfold sgnV
    by_cases hV : V < 0 <;> by_cases hU : U < 0 <;> simp [hV, hU] at hxy ⊢ <;> omega
  have hle : n' ≤ n := by
    refine Nat.le_of_not_lt fun hgt => ?_
    have := len_lt hcn hcn' (by omega)
    omega
  have hd : decide (dval ds < dval ds') = false := by simpa using hlt
  have HS := Lib.hid hs
  clear hs hx hx' hv hv'
  have hW : Below w.heap.size w (((w.alloc (.cells #[.bool x, .slice a n c] 81)).alloc (.cells #[.bool y, .slice a' n' c'] 81)).alloc (.cells #[.bool false, .slice none 0 0] 81)) :=
    (((Below.refl _ _).alloc (Nat.le_refl _) _).alloc (by simp) _).alloc (by simp; omega) _
  have hz3 := hz.below hW
  have hz3' := hz'.below hW
  clear hz hz'
  go_enter Try.func51, Try.ntmps51
  go_wp2_with fail
  refine (less_dig a a' n n' c c' ds ds' _ hn hn' hz3 hz3' hcn hcn' (by omega) (by omega)).mono ?_
  rintro e wl ⟨rfl, hbl⟩
  have hz4 := (hz3.below hbl).drew
  have hz4' := (hz3'.below hbl).drew
  obtain ⟨hcl, hfl⟩ := bcell hbl
  have j0 : wl.cell? ⟨w.heap.size, 0, none⟩ = some (.bool x) := by rw [hcl _ _ (by simp; omega)]; go_simp
  have j1 : wl.cell? ⟨w.heap.size, 1, none⟩ = some (.slice a n c) := by rw [hcl _ _ (by simp; omega)]; go_simp
  have j2 : wl.cell? ⟨w.heap.size + 1, 0, none⟩ = some (.bool y) := by rw [hcl _ _ (by simp)]; go_simp
  have j3 : wl.cell? ⟨w.heap.size + 1, 1, none⟩ = some (.slice a' n' c') := by rw [hcl _ _ (by simp)]; go_simp
  have hzl : w.heap.size + 3 ≤ wl.heap.size := by have := hbl.size; simp at this; omega
  clear hcl hfl hz3 hz3'
  go_wp2_with fail
  go_region_held3 (fun w' => w'.cell? ⟨w.heap.size, 0, none⟩ = some (.bool x) ∧ w'.cell? ⟨w.heap.size, 1, none⟩ = some (.slice a n c) ∧ w'.cell? ⟨w.heap.size + 1, 0, none⟩ = some (.bool y) ∧ w'.cell? ⟨w.heap.size + 1, 1, none⟩ = some (.slice a' n' c'))
    (first | with_reducible exact ⟨k0, k1, k2, k3⟩ | with_reducible exact ⟨m0, m1, m2, m3⟩ | with_reducible exact ⟨(cell_set2 (by omega)).trans m0, (cell_set2 (by omega)).trans m1, (cell_set2 (by omega)).trans m2, (cell_set2 (by omega)).trans m3⟩ | go_keep)
    (first
      | (go_at_call 72; refine (sub_dig a a' n n' c c' ds ds' _ hn hn' hz4 hz4' hcn.1 hcn'.1 hle (by omega) (by omega)).mono ?_; rintro e w1 ⟨ra, rn, rc, rds, rfl, q1, q2, q3, q4, q5, q6, hb1, hfr⟩; obtain ⟨hc1, hf1⟩ := bcell hb1; have k0 := (hc1 w.heap.size 0 (show _ < wl.heap.size by omega)).trans j0; have k1 := (hc1 w.heap.size 1 (show _ < wl.heap.size by omega)).trans j1; have k2 := (hc1 (w.heap.size + 1) 0 (show _ < wl.heap.size by omega)).trans j2; have k3 := (hc1 (w.heap.size + 1) 1 (show _ < wl.heap.size by omega)).trans j3; have hz1 : wl.heap.size ≤ w1.heap.size := hb1.size; clear hc1 hf1)
      | (go_at_call 69; refine (sign_any x ra rn rc rds _ q1 q2 q4 (by omega) q5).mono ?_; rintro e w2 ⟨x2, a2, n2, c2, rfl, hnum, hb2, rfl⟩; obtain ⟨hc2, hf2⟩ := bcell hb2; have m0 := (hc2 w.heap.size 0 (by omega)).trans k0; have m1 := (hc2 w.heap.size 1 (by omega)).trans k1; have m2 := (hc2 (w.heap.size + 1) 0 (by omega)).trans k2; have m3 := (hc2 (w.heap.size + 1) 1 (by omega)).trans k3; clear hc2 hf2; have hB : Below (w.heap.size + 1 + 1 + 1) (((w.alloc (.cells #[.bool x, .slice a n c] 81)).alloc (.cells #[.bool y, .slice a' n' c'] 81)).alloc (.cells #[.bool false, .slice none 0 0] 81)) w2 := (hbl.mono (by simp)).trans ((Below.refl _ _).drew.trans ((hb1.trans (hb2.mono hz1)).mono (show _ ≤ wl.heap.size by omega))); obtain ⟨_, g0, g1, g2, g3⟩ := num_cell (by simp) hB))
  go_wp2
  rw [q6, HS.out] at hnum
  obtain ⟨r1, r2⟩ := num_store (by simp) hB hnum
  simp [bodyPost, results, Try.results51, go_sem, g0, g1]
  exact ⟨_, _, _, _, rfl, r1, (((Below.refl _ _).alloc (Nat.le_refl _) _).alloc (by simp) _).trans (r2.mono (by omega)), hfr.mono (by simp; omega)⟩
theorem plus_num (x y : Bool) (a a' : Option Addr) (n c n' c' : Nat) (V U : Int) (w : World) (h : NumP w x a n c V) (k : NumP w y a' n' c' U) (hl : n ≤ 900000) (hl' : n' ≤ 900000) :
    Calls Try.prog 51 #[.agg #[.bool x, .slice a n c], .agg #[.bool y, .slice a' n' c']] w (NumRet (Fresh w.heap.size) (V + U) w) := by
  by_cases hxy : x = y
  · subst hxy; exact plus_same x a a' n c n' c' V U w h k hl hl'
  · have hb : (x == y) = false := by simpa using hxy
    by_cases hlt : (V.natAbs : Int) < U.natAbs
    · exact plus_lt x y hb a a' n c n' c' V U w h k hl hl' hlt
    · exact plus_ge x y hb a a' n c n' c' V U w h k hl hl' hlt
end Go.Proofs.Ytapnkbamilkpoaa
