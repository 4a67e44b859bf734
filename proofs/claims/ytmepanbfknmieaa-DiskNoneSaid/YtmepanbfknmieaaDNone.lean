/- DiskNone: of no disk, and no power, nothing comes. The walk. -/
import Derived.Test.YtmepanbfknmieaaAwake6
import Derived.Test.YtmepanbfknmieaaAppT
import Derived.Test.YtmepanbfknmieaaAct
namespace Go.Proofs.Ytmepanbfknmieaa
open Go.RowKit Go.Maps
theorem ask_nil (v : Value) (w : World) : Calls Try.prog 41 #[.pointer none, v] w fun e w' => e = .returned (.int .i64 1) ∧ w = w' := by
  go_enter Try.func41, Try.ntmps41
  go_wp2
  go_ret
  exact ⟨rfl, rfl⟩
theorem pon_nil (w : World) : Calls Try.prog 33 #[.pointer none] w fun e w' => e = .returned (.bool false) ∧ w = w' := by
  go_enter Try.func33, Try.ntmps33
  go_wp2
  go_ret
  exact ⟨rfl, rfl⟩
theorem puses_nil (w : World) : Calls Try.prog 34 #[.pointer none] w fun e w' => e = .returned (.int .i64 0) ∧ w = w' := by
  go_enter Try.func34, Try.ntmps34
  go_wp2
  go_ret
  exact ⟨rfl, rfl⟩
theorem parm_nil (n : Int) (w : World) : Calls Try.prog 28 #[.pointer none, .int .i64 n] w fun e w' => e = .returned (.tuple #[]) ∧ w = w' := by
  go_enter Try.func28, Try.ntmps28
  go_wp2
  exact bodyPost_end (v := .tuple #[]) (by simp [results, Try.results28, go_sem]) rfl ⟨rfl, rfl⟩
theorem don_nil (w : World) : Calls Try.prog 29 #[.pointer none] w fun e w' => e = .returned (.bool false) ∧ w = w' := by
  go_enter Try.func29, Try.ntmps29
  go_wp2
  go_ret
  exact ⟨rfl, rfl⟩
theorem duses_nil (w : World) : Calls Try.prog 30 #[.pointer none] w fun e w' => e = .returned (.int .i64 0) ∧ w = w' := by
  go_enter Try.func30, Try.ntmps30
  go_wp2
  go_ret
  exact ⟨rfl, rfl⟩
theorem darm_nil (n : Int) (w : World) : Calls Try.prog 37 #[.pointer none, .int .i64 n] w fun e w' => e = .returned (.tuple #[]) ∧ w = w' := by
  go_enter Try.func37, Try.ntmps37
  go_wp2
  exact bodyPost_end (v := .tuple #[]) (by simp [results, Try.results37, go_sem]) rfl ⟨rfl, rfl⟩
theorem dcrash_nil (v : Value) (w : World) : Calls Try.prog 24 #[.pointer none, v] w fun e w' => e = .returned (.tuple #[]) ∧ w = w' := by
  go_enter Try.func24, Try.ntmps24
  go_wp2
  (try simp only [Exit.inBlock, Exit.then])
  exact bodyPost_ret (v := .tuple #[]) (by simp [results, Try.results24, go_sem]) rfl ⟨rfl, rfl⟩
theorem dread_nil (s : ByteArray) (w : World) : Calls Try.prog 25 #[.pointer none, .string s] w fun e w' => e = .returned (.tuple #[.string ⟨#[]⟩, .int .i64 1]) ∧ w = w' := by
  go_enter Try.func25, Try.ntmps25
  go_wp2
  go_ret2
  exact ⟨rfl, rfl⟩
theorem dnames_nil (v : Value) (w : World) : Calls Try.prog 21 #[.pointer none, v] w fun e w' => e = .returned (.slice none 0 0) ∧ w = w' := by
  go_enter Try.func21, Try.ntmps21
  go_wp2
  go_ret
  exact ⟨rfl, rfl⟩
theorem dkept_nil (s : ByteArray) (w : World) : Calls Try.prog 32 #[.pointer none, .string s] w fun e w' => e = .returned (.int .i64 0) ∧ w = w' := by
  go_enter Try.func32, Try.ntmps32
  go_wp2
  go_ret
  exact ⟨rfl, rfl⟩
theorem dused_nil (w : World) : Calls Try.prog 26 #[.pointer none] w fun e w' => e = .returned (.int .i64 0) ∧ w = w' := by
  go_enter Try.func26, Try.ntmps26
  go_wp2
  go_ret
  exact ⟨rfl, rfl⟩
theorem dfree_nil (w : World) : Calls Try.prog 31 #[.pointer none] w fun e w' => e = .returned (.int .i64 0) ∧ w = w' := by
  go_enter Try.func31, Try.ntmps31
  go_wp2
  go_ret
  exact ⟨rfl, rfl⟩
theorem dput_nil (s d : ByteArray) (w : World) : Calls Try.prog 38 #[.pointer none, .string s, .string d] w fun e w' => e = .returned (.int .i64 1) ∧ w = w' := by
  go_enter Try.func38, Try.ntmps38
  go_wp2
  go_ret
  exact ⟨rfl, rfl⟩
theorem askOf_nil (v : Value) (w : World) : Calls Try.prog 47 #[.pointer none, v] w fun e w' => e = .returned (.int .i64 1) ∧ w = w' := by
  have HA := Lib.hid (ask_nil v w)
  go_enter Try.func47, Try.ntmps47
  go_wp2_with fail
  refine HA.out.mono ?_
  rintro e w1 ⟨rfl, hE⟩
  subst hE
  go_wp2
  go_ret
  exact ⟨rfl, rfl⟩
theorem dappend_nil (s : ByteArray) (v : Value) (w : World) : Calls Try.prog 20 #[.pointer none, .string s, v] w fun e w' => e = .returned (.int .i64 1) ∧ Below w.heap.size w w' := by
  have HA := Lib.hid (fun v w => ask_nil v w)
  have HB := Lib.hid (show Below w.heap.size w (w.alloc (.cells #[.string s] 9)) from (Below.refl _ _).alloc (Nat.le_refl _) _)
  go_enter Try.func20, Try.ntmps20
  go_wp2_with fail
  refine (HA.out _ _).mono ?_
  rintro e w1 ⟨rfl, hE⟩
  subst hE
  go_wp2
  go_ret
  exact ⟨rfl, HB.out⟩
theorem dsync_nil (v : Value) (w : World) : Calls Try.prog 23 #[.pointer none, v] w fun e w' => e = .returned (.int .i64 1) ∧ Below w.heap.size w w' := by
  have HA := Lib.hid (fun v w => askOf_nil v w)
  have HB := Lib.hid (Below.refl w.heap.size w)
  go_enter Try.func23, Try.ntmps23
  go_wp2_with fail
  refine (HA.out _ _).mono ?_
  rintro e w1 ⟨rfl, hE⟩
  subst hE
  go_wp2
  go_ret
  exact ⟨rfl, HB.out⟩
theorem drename_nil (s t : ByteArray) (w : World) : Calls Try.prog 27 #[.pointer none, .string s, .string t] w fun e w' => e = .returned (.int .i64 1) ∧ Below w.heap.size w w' := by
  have HA := Lib.hid (fun v w => ask_nil v w)
  have HB := Lib.hid (show Below w.heap.size w (w.alloc (.cells #[.string s, .string t] 9)) from (Below.refl _ _).alloc (Nat.le_refl _) _)
  go_enter Try.func27, Try.ntmps27
  go_wp2_with fail
  refine (HA.out _ _).mono ?_
  rintro e w1 ⟨rfl, hE⟩
  subst hE
  go_wp2
  go_ret
  exact ⟨rfl, HB.out⟩
theorem ddelete_nil (s : ByteArray) (w : World) : Calls Try.prog 35 #[.pointer none, .string s] w fun e w' => e = .returned (.int .i64 1) ∧ Below w.heap.size w w' := by
  have HA := Lib.hid (fun v w => askOf_nil v w)
  have HB := Lib.hid (show Below w.heap.size w (w.alloc (.cells #[.string s] 9)) from (Below.refl _ _).alloc (Nat.le_refl _) _)
  go_enter Try.func35, Try.ntmps35
  go_wp2_with fail
  refine (HA.out _ _).mono ?_
  rintro e w1 ⟨rfl, hE⟩
  subst hE
  go_wp2
  go_ret
  exact ⟨rfl, HB.out⟩
theorem dcut_nil (s : ByteArray) (n : Int) (w : World) : Calls Try.prog 36 #[.pointer none, .string s, .int .i64 n] w fun e w' => e = .returned (.int .i64 1) ∧ Below w.heap.size w w' := by
  have HA := Lib.hid (fun v w => askOf_nil v w)
  have HB := Lib.hid (show Below w.heap.size w (w.alloc (.cells #[.string s] 9)) from (Below.refl _ _).alloc (Nat.le_refl _) _)
  go_enter Try.func36, Try.ntmps36
  go_wp2_with fail
  refine (HA.out _ _).mono ?_
  rintro e w1 ⟨rfl, hE⟩
  subst hE
  go_wp2
  go_ret
  exact ⟨rfl, HB.out⟩
theorem greatA_not {A : ActM} (h : greatA A = false) : A.ds.length ≤ 10 ∧ A.name.size ≤ 100 ∧ A.to.size ≤ 100 ∧ ∀ s ∈ A.ds, s.size ≤ 300 := by
  unfold greatA at h
  simp only [Bool.or_eq_false_iff, decide_eq_false_iff_not, List.any_eq_false, decide_eq_true_eq] at h
  obtain ⟨⟨⟨h1, h2⟩, h3⟩, h4⟩ := h
  exact ⟨by omega, by omega, by omega, fun s hs => by have := h4 s hs; omega⟩
theorem joinB_max {ss : List ByteArray} (h : ∀ s ∈ ss, s.size ≤ 300) : (joinB ss).length ≤ ss.length * 300 := by
  induction ss with
  | nil => simp [joinB]
  | cons s r ih =>
    have h1 := h s (by simp)
    have h2 := ih fun x hx => h x (List.mem_cons_of_mem _ hx)
    have e : joinB (s :: r) = s.data.toList ++ joinB r := by simp [joinB]
    have hl : s.data.toList.length = s.size := by rw [Array.length_toList]; rfl
    rw [e, List.length_append, List.length_cons, hl, Nat.add_mul, Nat.one_mul]
    omega
set_option maxRecDepth 100000 in
set_option maxHeartbeats 4000000 in
theorem do_nil (A : ActM) (w : World) (hin : ActIn w A) (hg : greatA A = false) :
    Calls Try.prog 11 #[.pointer none, .agg A.cells.toArray] w fun e w' => e = .returned (.tuple #[.string ⟨#[]⟩, .int .i64 (if A.kind = 6 ∨ A.kind = 7 then 0 else 1)]) ∧ Below w.heap.size w w' := by
  obtain ⟨g1, g2, g3, g4⟩ := greatA_not hg
  have hjm := joinB_max g4
  obtain ⟨kind, name, to, da, dm, dc, ds, n, ka, km, kc, ks⟩ := A
  simp only [ActM.cells] at *
  obtain ⟨W1, hW1⟩ : ∃ W, W = w.alloc (.cells #[.int .i64 kind, .string name, .string to, .slice da dm dc, .int .i64 n, .slice ka km kc] 34) := ⟨_, rfl⟩
  have hB1 : Below w.heap.size w W1 := by rw [hW1]; exact (Below.refl _ _).alloc (Nat.le_refl _) _
  have hk1 : W1.heap[w.heap.size]? = some (.cells #[.int .i64 kind, .string name, .string to, .slice da dm dc, .int .i64 n, .slice ka km kc] 34 (0, 0)) := by rw [hW1]; exact Array.getElem?_push_size
  have hs1 : w.heap.size < W1.heap.size := by rw [hW1]; simp
  have x0 := Lib.cell_of_heap hk1 0
  have x1 := Lib.cell_of_heap hk1 1
  have x2 := Lib.cell_of_heap hk1 2
  have x3 := Lib.cell_of_heap hk1 3
  have x4 := Lib.cell_of_heap hk1 4
  have x5 := Lib.cell_of_heap hk1 5
  have HDT := Lib.hid (hin.dt.below hB1)
  have hdl : ds.length = dm := hin.dl
  rw [hdl] at g1 hjm
  have HDL := Lib.hid hdl
  have HW1 := Lib.hid hW1.symm
  have HB1 := Lib.hid hB1
  have HK1 := Lib.hid hk1
  obtain ⟨R, hR⟩ : ∃ R : Int, R = if kind = 6 ∨ kind = 7 then 0 else 1 := ⟨_, rfl⟩
  rw [← hR]
  have HR := Lib.hid hR
  clear hin hdl hW1 hB1 hk1 hR hg g4
  by_cases k0 : kind = 0
  · subst k0
    have HT := Lib.hid (show R = 1 by rw [HR.out]; rfl)
    clear HR
    go_enter Try.func11, Try.ntmps11
    go_upto_region 1 with fail
    rw [HW1.out]
    go_wp2_with fail
    refine (dappend_nil _ _ _).mono ?_
    rintro e w2 ⟨rfl, hb2⟩
    have HB2 := Lib.hid (Below.thenB HB1.out HB1.out.size hb2)
    clear hb2
    go_wp2
    go_ret2
    rw [HT.out]
    exact ⟨rfl, HB2.out⟩
  have e0 : (kind == 0) = false := beq_false_of_ne k0
  have f0 : decide (kind = 0) = false := decide_eq_false k0
  by_cases k1 : kind = 1
  · subst k1
    have HT := Lib.hid (show R = 1 by rw [HR.out]; rfl)
    clear HR
    go_enter Try.func11, Try.ntmps11
    go_upto_region 1 with fail
    rw [HW1.out]
    have hlit : (W1.alloc (.cells #[.string name] 9)).ownsRow W1.heap.size 9 1 (.slice (some ⟨W1.heap.size, 0, none⟩) 1 1) 1 ([name].map Value.string) := World.ownsRow_lit W1 #[.string name] 1 (Nat.le_refl _) (by unfold maxLen; omega) rfl
    have hA1 : Below W1.heap.size W1 (W1.alloc (.cells #[.string name] 9)) := (Below.refl _ _).alloc (Nat.le_refl _) _
    have HDT2 := Lib.hid (HDT.out.below hA1)
    have HA1 := Lib.hid (Below.thenB HB1.out HB1.out.size hA1)
    clear hA1
    go_wp2_with (first
      | (at_builtin; refine wpList_app_texts rfl (.tmp 28) (.tmp 30) rfl W1.heap.size _ 1 [name] rfl (by omega) rfl hlit (by simp) da dm dc ds HDL.out (by omega) HDT2.out rfl ?_; intro a' c' w2 hown hb2; go_frame)
      | fail)
    have HB2 := Lib.hid (HA1.out.trans (hb2.mono HB1.out.size))
    clear hown hb2 hlit
    go_wp2_with fail
    refine (dsync_nil _ _).mono ?_
    rintro e w3 ⟨rfl, hb3⟩
    have HB3 := Lib.hid (Below.thenB HB2.out HB2.out.size hb3)
    clear hb3
    go_wp2
    go_ret2
    rw [HT.out]
    exact ⟨rfl, HB3.out⟩
  have e1 : (kind == 1) = false := beq_false_of_ne k1
  have f1 : decide (kind = 1) = false := decide_eq_false k1
  by_cases k2 : kind = 2
  · subst k2
    have HT := Lib.hid (show R = 1 by rw [HR.out]; rfl)
    clear HR
    go_enter Try.func11, Try.ntmps11
    go_upto_region 1 with fail
    rw [HW1.out]
    go_wp2_with fail
    refine (drename_nil _ _ _).mono ?_
    rintro e w2 ⟨rfl, hb2⟩
    have HB2 := Lib.hid (Below.thenB HB1.out HB1.out.size hb2)
    clear hb2
    go_wp2
    go_ret2
    rw [HT.out]
    exact ⟨rfl, HB2.out⟩
  have e2 : (kind == 2) = false := beq_false_of_ne k2
  have f2 : decide (kind = 2) = false := decide_eq_false k2
  by_cases k3 : kind = 3
  · subst k3
    have HT := Lib.hid (show R = 1 by rw [HR.out]; rfl)
    clear HR
    go_enter Try.func11, Try.ntmps11
    go_upto_region 1 with fail
    rw [HW1.out]
    go_wp2_with fail
    refine (ddelete_nil _ _).mono ?_
    rintro e w2 ⟨rfl, hb2⟩
    have HB2 := Lib.hid (Below.thenB HB1.out HB1.out.size hb2)
    clear hb2
    go_wp2
    go_ret2
    rw [HT.out]
    exact ⟨rfl, HB2.out⟩
  have e3 : (kind == 3) = false := beq_false_of_ne k3
  have f3 : decide (kind = 3) = false := decide_eq_false k3
  by_cases k4 : kind = 4
  · subst k4
    have HT := Lib.hid (show R = 1 by rw [HR.out]; rfl)
    clear HR
    go_enter Try.func11, Try.ntmps11
    go_upto_region 1 with fail
    rw [HW1.out]
    go_wp2_with fail
    refine (dcut_nil _ _ _).mono ?_
    rintro e w2 ⟨rfl, hb2⟩
    have HB2 := Lib.hid (Below.thenB HB1.out HB1.out.size hb2)
    clear hb2
    go_wp2
    go_ret2
    rw [HT.out]
    exact ⟨rfl, HB2.out⟩
  have e4 : (kind == 4) = false := beq_false_of_ne k4
  have f4 : decide (kind = 4) = false := decide_eq_false k4
  by_cases k5 : kind = 5
  · subst k5
    have HT := Lib.hid (show R = 1 by rw [HR.out]; rfl)
    clear HR
    go_enter Try.func11, Try.ntmps11
    go_upto_region 1 with fail
    rw [HW1.out]
    go_wp2_with fail
    refine (dread_nil _ _).mono ?_
    rintro e w2 ⟨rfl, hE⟩
    subst hE
    have HB2 := HB1
    go_wp2
    go_ret2
    rw [HT.out]
    exact ⟨rfl, HB2.out⟩
  have e5 : (kind == 5) = false := beq_false_of_ne k5
  have f5 : decide (kind = 5) = false := decide_eq_false k5
  by_cases k6 : kind = 6
  · subst k6
    have HT := Lib.hid (show R = 0 by rw [HR.out]; rfl)
    clear HR
    go_enter Try.func11, Try.ntmps11
    go_upto_region 1 with fail
    rw [HW1.out]
    go_wp2_with fail
    refine (darm_nil _ _).mono ?_
    rintro e w2 ⟨rfl, hE⟩
    subst hE
    have HB2 := HB1
    go_wp2
    go_ret2
    rw [HT.out]
    exact ⟨rfl, HB2.out⟩
  have e6 : (kind == 6) = false := beq_false_of_ne k6
  have f6 : decide (kind = 6) = false := decide_eq_false k6
  by_cases k7 : kind = 7
  · subst k7
    have HT := Lib.hid (show R = 0 by rw [HR.out]; rfl)
    clear HR
    go_enter Try.func11, Try.ntmps11
    go_upto_region 1 with fail
    rw [HW1.out]
    go_wp2_with fail
    refine (dcrash_nil _ _).mono ?_
    rintro e w2 ⟨rfl, hE⟩
    subst hE
    have HB2 := HB1
    go_wp2
    go_ret2
    rw [HT.out]
    exact ⟨rfl, HB2.out⟩
  have e7 : (kind == 7) = false := beq_false_of_ne k7
  have f7 : decide (kind = 7) = false := decide_eq_false k7
  have HT := Lib.hid (show R = 1 by rw [HR.out, if_neg (by rintro (h | h); exact k6 h; exact k7 h)])
  have HJ := Lib.hid (fun n => Calls.quiet_of_same ((join_any da dm dc ds (W1.drewN n) HDL.out (by omega) (HDT.out.below (bdrewN (Below.refl _ _) n)) (by omega)).mono (fun e w' h => ⟨h.1, h.2.symm⟩)))
  have HP := Lib.hid (fun n d => Calls.quiet_of_same ((dput_nil name d (W1.drewN n)).mono (fun e w' h => ⟨h.1, h.2.symm⟩)))
  clear HR k0 k1 k2 k3 k4 k5 k6 k7
  go_enter Try.func11, Try.ntmps11
  go_upto_region 1 with fail
  rw [HW1.out]
  go_wp2_with fail
  go_quiet (first | (go_at_call 17; exact HJ.out _) | (go_at_call 38; exact HP.out _ _))
  go_wp2
  go_ret2
  rw [HT.out]
  exact ⟨rfl, bdrewN HB1.out _⟩
end Go.Proofs.Ytmepanbfknmieaa
