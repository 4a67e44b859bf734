/- DiskFull: a disk takes as many files as may be, and one more not; a renamed one frees a name. The walk. -/
import Derived.Test.YtmepanbfknmieaaAwake6
import Derived.Test.YtmepanbfknmieaaDisk21
namespace Go.Proofs.Ytmepanbfknmieaa
open Go.RowKit Go.Maps
/-- The name of file i. -/
def nmF (i : Nat) : List UInt8 := [102, UInt8.ofNat (97 + i / 26), UInt8.ofNat (97 + i % 26)]
def fullF (n : Nat) : List (List UInt8 × MF) := (List.range n).map fun i => (nmF i, ([120], 0))
theorem nmF_lt {j i : Nat} (h : j < i) (hi : i < 200) : bytesBefore (nmF j) (nmF i) = true := by
  have e1 : (UInt8.ofNat (97 + j / 26)).toNat = 97 + j / 26 := by rw [UInt8.toNat_ofNat']; omega
  have e2 : (UInt8.ofNat (97 + i / 26)).toNat = 97 + i / 26 := by rw [UInt8.toNat_ofNat']; omega
  have e3 : (UInt8.ofNat (97 + j % 26)).toNat = 97 + j % 26 := by rw [UInt8.toNat_ofNat']; omega
  have e4 : (UInt8.ofNat (97 + i % 26)).toNat = 97 + i % 26 := by rw [UInt8.toNat_ofNat']; omega
  unfold nmF
  simp only [bytesBefore, Bool.or_eq_true, Bool.and_eq_true, decide_eq_true_eq, beq_iff_eq]
  right
  refine ⟨by trivial, ?_⟩
  rcases Nat.lt_or_ge (j / 26) (i / 26) with h1 | h1
  · left
    rw [UInt8.lt_iff_toNat_lt, e1, e2]; omega
  · have he : j / 26 = i / 26 := by omega
    right
    refine ⟨by rw [he], ?_⟩
    left
    rw [UInt8.lt_iff_toNat_lt, e3, e4]; omega
theorem nmF_ne {j i : Nat} (h : j < i) (hi : i < 200) : nmF j ≠ nmF i := fun e => by
  have := nmF_lt h hi
  rw [e, WideAt.bytes_irrefl] at this
  cases this
theorem full_none {n i : Nat} (h : n ≤ i) (hi : i < 200) : fget (fullF n) (nmF i) = none := by
  rw [fget_none]
  intro p hp
  obtain ⟨j, hj, rfl⟩ := List.mem_map.1 hp
  exact nmF_ne (by have := List.mem_range.1 hj; omega) hi
theorem full_tot (n : Nat) : totF (fullF n) = n := by
  unfold totF totV fullF
  induction n with
  | zero => rfl
  | succ n ih =>
    rw [List.range_succ, List.map_append, List.map_append, List.sum_append]
    rw [ih]; rfl
theorem fins_last {β : Type} {L : List (List UInt8 × β)} {x : List UInt8 × β} (h : ∀ p ∈ L, bytesBefore p.1 x.1 = true) : fins x L = L ++ [x] := by
  induction L with
  | nil => rfl
  | cons y r ih =>
    unfold fins
    rw [if_neg, ih fun p hp => h p (List.mem_cons_of_mem _ hp)]
    · rfl
    · intro hb
      have := bb_trans (show bytesBefore x.1 y.1 = true from hb) (h y (by simp))
      rw [WideAt.bytes_irrefl] at this
      cases this
theorem full_put {n : Nat} (h : n < 200) : fput (fullF n) (nmF n) ([120], 0) = fullF (n + 1) := by
  unfold fput
  rw [fdel_len_none (full_none (Nat.le_refl _) h), fins_last]
  · unfold fullF
    rw [List.range_succ, List.map_append]; rfl
  · intro p hp
    obtain ⟨j, hj, rfl⟩ := List.mem_map.1 hp
    exact nmF_lt (List.mem_range.1 hj) h
theorem askM_on {u r : Int} {fs : List (List UInt8 × MF)} {ss : List ByteArray} (h : ss.all mayB = true) : askM ⟨true, u, false, 0, r, fs⟩ ss = 0 := by
  unfold askM
  rw [show useM ⟨true, u, false, 0, r, fs⟩ = (⟨true, wrap64 (u + 1), false, 0, r, fs⟩, true) from rfl]
  rw [if_neg (by simp), if_pos h]
theorem full_app {u : Int} {n : Nat} {s : ByteArray} (hs : s.data.toList = nmF n) (h : n < 100) : appM ⟨true, u, false, 0, 1000, fullF n⟩ s [120] = (⟨true, wrap64 (u + 1), false, 0, 1000, fullF (n + 1)⟩, 0) := by
  have hm : mayB s = true := by
    have : s.size = 3 := by rw [← blen, hs]; rfl
    unfold mayB; rw [this]; rfl
  have hg : fget (fullF n) s.data.toList = none := by rw [hs]; exact full_none (Nat.le_refl _) (by omega)
  rw [appM_eq (askM_on (by simp [hm])) (y := ([], 0)) (by rw [show (⟨true, u, false, 0, 1000, fullF n⟩ : DM).files = fullF n from rfl, hg]; rfl) ?_]
  · rw [show useM ⟨true, u, false, 0, 1000, fullF n⟩ = (⟨true, wrap64 (u + 1), false, 0, 1000, fullF n⟩, true) from rfl]
    simp only [List.nil_append]
    rw [hs, full_put (by omega)]
  · show refusesM (fullF n) 1000 s.data.toList _ = 0
    unfold refusesM
    have hl : (fullF n).length = n := by simp [fullF]
    rw [hg, hl, full_tot, if_neg (by simp; omega), if_neg (by simp [flenM]; omega)]
theorem full_more {u : Int} {i : Nat} {s : ByteArray} (hs : s.data.toList = nmF i) (h : 100 ≤ i) (hi : i < 200) : appM ⟨true, u, false, 0, 1000, fullF 100⟩ s [120] = (⟨true, wrap64 (u + 1), false, 0, 1000, fullF 100⟩, 5) := by
  have hm : mayB s = true := by
    have : s.size = 3 := by rw [← blen, hs]; rfl
    unfold mayB; rw [this]; rfl
  have hg : fget (fullF 100) s.data.toList = none := by rw [hs]; exact full_none h hi
  have hr : refusesM (fullF 100) 1000 s.data.toList (((([], 0) : MF).1.length + [(120 : UInt8)].length : Nat) : Int) = 5 := by
    unfold refusesM
    rw [if_pos (.inr ⟨hg, by simp [fullF]⟩)]
  unfold appM
  rw [if_pos (askM_on (by simp [hm]))]
  have hy : (fget (⟨true, u, false, 0, 1000, fullF 100⟩ : DM).files s.data.toList).getD ([], 0) = ([], 0) := by
    show (fget (fullF 100) s.data.toList).getD ([], 0) = _
    rw [hg]; rfl
  rw [hy]
  show (if refusesM (fullF 100) 1000 s.data.toList (((([], 0) : MF).1.length + [(120 : UInt8)].length : Nat) : Int) = 0 then _ else _) = _
  rw [hr]
  rfl
def renF : List (List UInt8 × MF) := fput (fdel (fullF 100) [102, 97, 97]) [102, 97, 98] ([120], 0)
theorem full_ren (u : Int) : renM ⟨true, u, false, 0, 1000, fullF 100⟩ ⟨#[102, 97, 97]⟩ ⟨#[102, 97, 98]⟩ = (⟨true, wrap64 (u + 1), false, 0, 1000, renF⟩, 0) := by
  unfold renM
  rw [if_pos (askM_on (by decide))]
  have hg : fget (⟨true, u, false, 0, 1000, fullF 100⟩ : DM).files (⟨#[102, 97, 97]⟩ : ByteArray).data.toList = some ([120], 0) := by
    show fget (fullF 100) [102, 97, 97] = some ([120], 0)
    kernel_rfl
  rw [hg]
  rfl
def newF : List (List UInt8 × MF) := fput renF [110, 101, 119] ([120], 0)
theorem full_new (u : Int) : appM ⟨true, u, false, 0, 1000, renF⟩ ⟨#[110, 101, 119]⟩ [120] = (⟨true, wrap64 (u + 1), false, 0, 1000, newF⟩, 0) := by
  have hg : fget renF [110, 101, 119] = none := by kernel_rfl
  rw [appM_eq (askM_on (by decide)) (y := ([], 0)) (by
    show (fget renF [110, 101, 119]).getD ([], 0) = _
    rw [hg]; rfl) ?_]
  · rfl
  · show refusesM renF 1000 [110, 101, 119] 1 = 0
    kernel_rfl
theorem new_tot : totF newF = 100 := by kernel_rfl
theorem db_rename {w0 w : World} {b : Nat} {M : DM} (h : DB w0 w b M) (s t : ByteArray) (hs : s.size ≤ 281474976710656) (ht : t.size ≤ 281474976710656) :
    Calls Try.prog 27 #[.pointer (some ⟨b, 0, none⟩), .string s, .string t] w fun e w' => e = .returned (.int .i64 (renM M s t).2) ∧ DB w0 w' b (renM M s t).1 := by
  obtain ⟨⟨S, ⟨mb, L, hd⟩, h2⟩, h3⟩ := h
  refine (hd.rename s t hs ht).mono ?_
  rintro e w' ⟨rfl, ho⟩
  exact ⟨rfl, DB.out h3 h2 ho⟩
theorem db_names0 {w0 w : World} {b : Nat} {M : DM} (h : DB w0 w b M) :
    Calls Try.prog 21 #[.pointer (some ⟨b, 0, none⟩), .slice none 0 0] w fun e w' => (∃ a c, e = .returned (.slice a M.files.length c)) ∧ DB w0 w' b M := by
  obtain ⟨⟨S, ⟨mb, L, hd⟩, h2⟩, h3⟩ := id h
  refine (hd.names none 0 0 [] rfl (by omega) (.inl rfl)).mono ?_
  rintro e w' ⟨⟨a, c, rfl, _⟩, hb⟩
  refine ⟨⟨a, c, ?_⟩, h.below hb⟩
  rw [names_nil, List.length_map]
set_option maxRecDepth 100000 in
set_option maxHeartbeats 2000000 in
theorem full_walk (v0 : Value) (z : Int) (w : World) (y0 : v0 = .int .u8 z ∧ (Lit.int .u8 z).wf = true) :
    Calls Try.prog 6 #[v0] w fun e w' => e = .returned (.bool true) ∧ Below w.heap.size w w' := by
  obtain ⟨rfl, hz⟩ := y0
  have hzr : 0 ≤ z ∧ z ≤ 255 := by simpa [Lit.wf, IntKind.min, IntKind.max, IntKind.signed, IntKind.bits] using hz
  obtain ⟨r, hr⟩ : ∃ r : Nat, r = (z % 5).toNat := ⟨_, rfl⟩
  have hr5 : r < 5 := by omega
  have hr1 : z % 5 = (r : Int) := by omega
  have hz0 : 0 ≤ z := hzr.1
  have hz1 : z ≤ 255 := hzr.2
  have HN := Lib.hid (db_new 1000 (by omega) (by omega) w)
  clear hz hzr hr
  go_enter Try.func6, Try.ntmps6
  go_wp2_with fail
  refine HN.out.mono ?_
  rintro e w1 ⟨rfl, h1⟩
  have H1 := Lib.hid h1
  clear h1 HN
  go_wp2
  go_loopw [4] (fun iv wr => ∃ (i : Nat) (u : Int), i ≤ 100 + r ∧ iv = .int .i64 (i : Int) ∧ Hid (DB w wr w.heap.size ⟨true, u, false, 0, 1000, fullF (min i 100)⟩)) (fun iv _ => 100 + r - (intOf iv).toNat)
  case atStart => exact ⟨0, 0, Nat.zero_le _, rfl, H1⟩
  case round =>
    obtain ⟨i, u, hi, rfl, hdb⟩ := hrel
    by_cases hlt : i < 100 + r
    · have hlt' : decide ((i : Int) < 100 + (r : Int)) = true := decide_eq_true (by omega)
      obtain ⟨d, hd⟩ : ∃ d, d = i / 26 := ⟨_, rfl⟩
      obtain ⟨m, hm⟩ : ∃ m, m = i % 26 := ⟨_, rfl⟩
      have hq1 : (i : Int) / 26 = (d : Int) := by omega
      have hq2 : (i : Int) % 26 = (m : Int) := by omega
      have hd4 : d ≤ 4 := by omega
      have hm26 : m < 26 := by omega
      obtain ⟨nb, hnb⟩ : ∃ nb : ByteArray, nb = ⟨(nmF i).toArray⟩ := ⟨_, rfl⟩
      have hnl : nb.data.toList = nmF i := by rw [hnb]
      have hns : nb.size ≤ 281474976710656 := by
        have : nb.size = 3 := by rw [← blen, hnl]; rfl
        omega
      obtain ⟨W1, hW1⟩ : ∃ W, W = wr.alloc (.cells #[.int .u8 102, .int .u8 (97 + (d : Int)), .int .u8 (97 + (m : Int))] 5) := ⟨_, rfl⟩
      have hB1 : Below wr.heap.size wr W1 := by rw [hW1]; exact (Below.refl _ _).alloc (Nat.le_refl _) _
      have hk1 : W1.heap[wr.heap.size]? = some (.cells #[.int .u8 102, .int .u8 (97 + (d : Int)), .int .u8 (97 + (m : Int))] 5 (0, 0)) := by rw [hW1]; exact Array.getElem?_push_size
      have hcv : (convert 57 9 (.slice (some ⟨wr.heap.size, 0, none⟩) 3 3)).run Try.prog W1 = .ok (.string nb) W1 := by
        have h3 := conv_block W1 ⟨wr.heap.size, 0, none⟩ 3 (nmF i) (fun j hj => by
          have hj : j < 3 := hj
          have e1 : (UInt8.ofNat (97 + i / 26)).toNat = 97 + i / 26 := by rw [UInt8.toNat_ofNat']; omega
          have e3 : (UInt8.ofNat (97 + i % 26)).toNat = 97 + i % 26 := by rw [UInt8.toNat_ofNat']; omega
          have hadd : (⟨wr.heap.size, 0, none⟩ : Addr).add j = ⟨wr.heap.size, j, none⟩ := by unfold Addr.add; split <;> simp_all
          rw [hadd, Lib.cell_of_heap hk1]
          rcases (by omega : j = 0 ∨ j = 1 ∨ j = 2) with rfl | rfl | rfl
          · rfl
          · show some (Value.int .u8 (97 + (d : Int))) = some (Value.int .u8 ((UInt8.ofNat (97 + i / 26)).toNat : Int))
            rw [e1, hd]; simp
          · show some (Value.int .u8 (97 + (m : Int))) = some (Value.int .u8 ((UInt8.ofNat (97 + i % 26)).toNat : Int))
            rw [e3, hm]; simp)
        rw [hnb]; exact h3
      have hs1 : W1.heap.size = wr.heap.size + 1 := by rw [hW1]; simp
      have HS1 := Lib.hid hs1
      have HB1 := Lib.hid hB1
      have HW1 := Lib.hid hW1.symm
      rw [hW1] at hcv
      have HNL := Lib.hid hnl
      clear hd hm hnb hnl hW1 hB1 hk1 hs1
      by_cases h100 : i < 100
      · have k1 : decide ((i : Int) < 100) = true := decide_eq_true (by omega)
        have k2 : decide ((100 : Int) ≤ (i : Int)) = false := decide_eq_false (by omega)
        have hmin : min i 100 = i := by omega
        have hmin2 : min (i + 1) 100 = i + 1 := by omega
        rw [hmin] at hdb
        have c1 := db_append (hdb.out.below HB1.out) nb hns #[.string ⟨#[120]⟩] [⟨#[120]⟩] 1 rfl (by omega) rfl (fun x hx => by simp at hx; subst hx; decide)
        rw [show joinB [⟨#[120]⟩] = [120] from rfl, full_app HNL.out h100, HS1.out] at c1
        have C1 := Lib.hid c1
        have HM2 := Lib.hid hmin2
        clear c1 hdb hmin hmin2
        go_wp2_with fail
        rw [HW1.out]
        refine C1.out.mono ?_
        rintro e w2 ⟨rfl, h2⟩
        have H2 := Lib.hid h2
        clear h2 hcv
        go_wp2
        go_roundw
        case rel => exact ⟨i + 1, _, by omega, by go_num, by rw [HM2.out]; exact H2⟩
        case measure => simp [intOf]; omega
      · have k1 : decide ((i : Int) < 100) = false := decide_eq_false (by omega)
        have k2 : decide ((100 : Int) ≤ (i : Int)) = true := decide_eq_true (by omega)
        have hmin : min i 100 = 100 := by omega
        have hmin2 : min (i + 1) 100 = 100 := by omega
        rw [hmin] at hdb
        have c1 := db_append (hdb.out.below HB1.out) nb hns #[.string ⟨#[120]⟩] [⟨#[120]⟩] 1 rfl (by omega) rfl (fun x hx => by simp at hx; subst hx; decide)
        rw [show joinB [⟨#[120]⟩] = [120] from rfl, full_more HNL.out (by omega) (by omega), HS1.out] at c1
        have C1 := Lib.hid c1
        have HM2 := Lib.hid hmin2
        clear c1 hdb hmin hmin2
        go_wp2_with fail
        rw [HW1.out]
        refine C1.out.mono ?_
        rintro e w2 ⟨rfl, h2⟩
        have H2 := Lib.hid h2
        clear h2 hcv
        go_wp2
        go_roundw
        case rel => exact ⟨i + 1, _, by omega, by go_num, by rw [HM2.out]; exact H2⟩
        case measure => simp [intOf]; omega
    · have hlt' : decide ((i : Int) < 100 + (r : Int)) = false := decide_eq_false (by omega)
      have hmin : min i 100 = 100 := by omega
      rw [hmin] at hdb
      have c1 := db_names0 hdb.out
      rw [show (⟨true, u, false, 0, 1000, fullF 100⟩ : DM).files.length = 100 from by simp [fullF]] at c1
      have C1 := Lib.hid c1
      have HAW := Lib.hid (fun w => awake6 w)
      clear c1 hdb hmin
      go_wp2_with fail
      refine C1.out.mono ?_
      rintro e w2 ⟨⟨na, nc, rfl⟩, h2⟩
      have c2 := db_rename h2 ⟨#[102, 97, 97]⟩ ⟨#[102, 97, 98]⟩ (by decide) (by decide)
      rw [full_ren] at c2
      have C2 := Lib.hid c2
      clear c2 h2 C1
      go_wp2_with fail
      refine C2.out.mono ?_
      rintro e w3 ⟨rfl, h3⟩
      have c3 := db_append h3 ⟨#[110, 101, 119]⟩ (by decide) #[.string ⟨#[120]⟩] [⟨#[120]⟩] 1 rfl (by omega) rfl (fun x hx => by simp at hx; subst hx; decide)
      rw [show joinB [⟨#[120]⟩] = [120] from rfl, full_new] at c3
      have C3 := Lib.hid c3
      clear c3 h3 C2
      go_wp2_with fail
      refine C3.out.mono ?_
      rintro e w4 ⟨rfl, h4⟩
      have c4 := db_used h4
      simp only [new_tot] at c4
      have C4 := Lib.hid c4
      clear c4 h4 C3
      go_wp2_with fail
      refine C4.out.mono ?_
      rintro e w5 ⟨rfl, h5⟩
      have HB5 := Lib.hid h5.bel
      have C5 := Lib.hid (HAW.out w5)
      clear h5 C4 HAW
      go_wp2_with fail
      refine C5.out.mono ?_
      rintro e w6 ⟨rfl, hb6⟩
      have HB6 := Lib.hid (Below.thenB HB5.out HB5.out.size hb6)
      clear hb6 C5
      go_wp2
      go_ret
      exact ⟨rfl, HB6.out⟩
end Go.Proofs.Ytmepanbfknmieaa
