/- Acts: as they lie in memory, as arguments; are there more than are asked of? Texts joined. -/
import Derived.Test.YtmepanbfknmieaaTexts
import Derived.Test.YtmepanbfknmieaaB8
namespace Go.Proofs.Ytmepanbfknmieaa
open Go.RowKit Go.ChangeShapes Go.WideShapes Go.ChangeAt
def i64q (z : Int) : Prop := -9223372036854775808 ≤ z ∧ z ≤ 9223372036854775807
structure ActM where
  kind : Int
  name : ByteArray
  to : ByteArray
  da : Option Addr
  dm : Nat
  dc : Nat
  ds : List ByteArray
  n : Int
  ka : Option Addr
  km : Nat
  kc : Nat
  ks : List Int
def ActM.cells (A : ActM) : List Value := [.int .i64 A.kind, .string A.name, .string A.to, .slice A.da A.dm A.dc, .int .i64 A.n, .slice A.ka A.km A.kc]
structure ActIn (W : World) (A : ActM) : Prop where
  kind : i64q A.kind
  name : A.name.size ≤ maxLen
  to : A.to.size ≤ maxLen
  dl : A.ds.length = A.dm
  dc : A.dm ≤ A.dc ∧ A.dc ≤ maxLen
  dt : Texts W A.da A.ds
  ds : ∀ s ∈ A.ds, s.size ≤ maxLen
  n : i64q A.n
  kl : A.ks.length = A.km
  kc : A.km ≤ A.kc ∧ A.kc ≤ maxLen
  kt : Ints .i64 W A.ka A.ks
  ks : I64s A.ks
theorem ActIn.below {W W' : World} {A : ActM} (h : ActIn W A) (hb : Below W.heap.size W W') : ActIn W' A :=
  ⟨h.kind, h.name, h.to, h.dl, h.dc, h.dt.below hb, h.ds, h.n, h.kl, h.kc, h.kt.below hb, h.ks⟩
def RAct : Rdr ActM := fun W cs A => cs = A.cells ∧ ActIn W A
theorem trod_six {H : Type} {enc : TypeId × Value → H} {P : Program} {w : World} {base : Nat} {spare : Nat → Bool} {held : Bool} {t : TypeId} {f0 f1 f2 f3 f4 f5 : Field} {fuel : Nat} {cs : List Value} {x : DataW H × List MemPlace} (ht : P.underlying t = some (.struct #[f0, f1, f2, f3, f4, f5])) (h : DataW.trod enc P w base spare held fuel t cs = some x) :
    ∃ y0 y1 y2 y3 y4 y5 n, cs.length = P.cellsOf t ∧ DataW.trod enc P w base spare held n f0.type ((cs.drop f0.offset).take (P.cellsOf f0.type)) = some y0 ∧ DataW.trod enc P w base spare held n f1.type ((cs.drop f1.offset).take (P.cellsOf f1.type)) = some y1 ∧ DataW.trod enc P w base spare held n f2.type ((cs.drop f2.offset).take (P.cellsOf f2.type)) = some y2 ∧ DataW.trod enc P w base spare held n f3.type ((cs.drop f3.offset).take (P.cellsOf f3.type)) = some y3 ∧ DataW.trod enc P w base spare held n f4.type ((cs.drop f4.offset).take (P.cellsOf f4.type)) = some y4 ∧ DataW.trod enc P w base spare held n f5.type ((cs.drop f5.offset).take (P.cellsOf f5.type)) = some y5 := by
  obtain ⟨xs, n, _, rfl, hl, hlen, hf⟩ := DataW.trod_struct ht h
  match xs, hlen with
  | [y0, y1, y2, y3, y4, y5], _ => exact ⟨y0, y1, y2, y3, y4, y5, n, hl, by simpa using hf 0 f0 rfl, by simpa using hf 1 f1 rfl, by simpa using hf 2 f2 rfl, by simpa using hf 3 f3 rfl, by simpa using hf 4 f4 rfl, by simpa using hf 5 f5 rfl⟩
theorem six_list {cs : List Value} (h : cs.length = 6) : ∃ x0 x1 x2 x3 x4 x5, cs = [x0, x1, x2, x3, x4, x5] := by
  match cs, h with
  | [x0, x1, x2, x3, x4, x5], _ => exact ⟨x0, x1, x2, x3, x4, x5, rfl⟩
section
variable {H : Type} {enc : TypeId × Value → H} {W : World}
set_option maxRecDepth 100000 in
theorem op_act : Op enc Try.prog W 34 RAct := by
  intro fuel cs x hf
  obtain ⟨y0, y1, y2, y3, y4, y5, n, hl, h0, h1, h2, h3, h4, h5⟩ := trod_six Try.underlying34 hf
  have hl6 : cs.length = 6 := by
    have : Try.prog.cellsOf 34 = 6 := by kernel_rfl
    rw [this] at hl
    exact hl
  obtain ⟨x0, x1, x2, x3, x4, x5, rfl⟩ := six_list hl6
  have c0 : Try.prog.cellsOf 9 = 1 := by kernel_rfl
  have c1 : Try.prog.cellsOf 31 = 1 := by kernel_rfl
  have c2 : Try.prog.cellsOf 32 = 1 := by kernel_rfl
  have c3 : Try.prog.cellsOf 3 = 1 := by kernel_rfl
  simp only [c0, c1, c2, c3, List.drop, List.take] at h0 h1 h2 h3 h4 h5
  obtain ⟨z0, e0, w0⟩ := op_int Try.underlying3 _ _ _ h0
  obtain ⟨z1, e1, w1⟩ := op_str Try.underlying9 _ _ _ h1
  obtain ⟨z2, e2, w2⟩ := op_str Try.underlying9 _ _ _ h2
  obtain ⟨z3, e3⟩ := op_list (sz := 1) Try.underlying31 (by kernel_rfl) (by decide) (op_str (enc := enc) (W := W) Try.underlying9) _ _ _ h3
  obtain ⟨z4, e4, w4⟩ := op_int Try.underlying3 _ _ _ h4
  obtain ⟨z5, e5⟩ := op_list (sz := 1) Try.underlying32 (by kernel_rfl) (by decide) (op_int (enc := enc) (W := W) Try.underlying3) _ _ _ h5
  obtain ⟨da, dm, dc, q3, t2, t3, t4, t5, t6⟩ := texts_of e3
  obtain ⟨ka, km, kc, q5, k2, k3, k4, k5, k6⟩ := ints_of_RL e5
  refine ⟨⟨z0, z1, z2, da, dm, dc, z3, z4, ka, km, kc, z5⟩, ?_, wf_i64 w0, w1, w2, t2, ⟨t3, t4⟩, t5, t6, wf_i64 w4, k2, ⟨k3, k4⟩, k5, fun z hz => wf_i64 (k6 z hz)⟩
  injection e0 with e0
  injection e1 with e1
  injection e2 with e2
  injection e4 with e4
  injection q5 with q5
  rw [e0, e1, e2, q3, e4, q5]
  rfl
end
/-- The slice value at a reads as acts. -/
def Acts (W : World) (a : Option Addr) (As : List ActM) : Prop := As = [] ∨ As ≠ [] ∧ ∃ b o, a = some ⟨b, o, none⟩ ∧ b < W.heap.size ∧ ∀ i A, As[i]? = some A → (∀ j, j < 6 → W.cell? ⟨b, o + (i * 6 + j), none⟩ = A.cells[j]?) ∧ ActIn W A
/-- Acts, as an argument. -/
def AArg (W : World) (v : Value) (As : List ActM) : Prop := ∃ a m c, v = .slice a m c ∧ As.length = m ∧ m ≤ c ∧ c ≤ maxLen ∧ Acts W a As
theorem acts_of {W : World} {v : Value} {As : List ActM} (h : RL 6 RAct W [v] As) : AArg W v As := by
  obtain ⟨a, m, c, h1, h2, h3, h4, h5⟩ := h
  refine ⟨a, m, c, by simpa using h1, h2, h3, h4, ?_⟩
  rcases h5 with rfl | ⟨hn, b, o, ha, hlt, h5⟩
  · exact .inl rfl
  · refine .inr ⟨hn, b, o, ha, hlt, fun i A hi => ?_⟩
    obtain ⟨cs', k1, k2, k3, k4⟩ := h5 i A hi
    rw [k3] at k2
    exact ⟨k2, k4⟩
theorem Acts.below {W W' : World} {a : Option Addr} {As : List ActM} (h : Acts W a As) (hb : Below W.heap.size W W') : Acts W' a As := by
  rcases h with h | ⟨hn, b, o, rfl, hlt, h⟩
  · exact .inl h
  · refine .inr ⟨hn, b, o, rfl, Nat.lt_of_lt_of_le hlt hb.size, fun i A hi => ?_⟩
    obtain ⟨h1, h2⟩ := h i A hi
    exact ⟨fun j hj => (hb.cell (p := ⟨b, o + (i * 6 + j), none⟩) hlt).trans (h1 j hj), h2.below hb⟩
theorem Acts.at {w w' : World} {a : Option Addr} {As : List ActM} {m k : Nat} (h : Acts w a As) (hl : As.length = m) (hk : k < m) (hb : Below w.heap.size w w') : ∃ b o A, a = some ⟨b, o, none⟩ ∧ b < w.heap.size ∧ As[k]? = some A ∧ ActIn w A ∧ w'.cell? ⟨b, o + k * 6, none⟩ = some (.int .i64 A.kind) ∧ w'.cell? ⟨b, o + k * 6 + 1, none⟩ = some (.string A.name) ∧ w'.cell? ⟨b, o + k * 6 + 2, none⟩ = some (.string A.to) ∧ w'.cell? ⟨b, o + k * 6 + 3, none⟩ = some (.slice A.da A.dm A.dc) ∧ w'.cell? ⟨b, o + k * 6 + 4, none⟩ = some (.int .i64 A.n) ∧ w'.cell? ⟨b, o + k * 6 + 5, none⟩ = some (.slice A.ka A.km A.kc) := by
  rcases h with h | ⟨_, b, o, rfl, hlt, hc⟩
  · rw [h] at hl; simp at hl; omega
  · obtain ⟨A, hA⟩ : ∃ A, As[k]? = some A := ⟨_, List.getElem?_eq_getElem (by omega)⟩
    obtain ⟨h1, h2⟩ := hc k A hA
    refine ⟨b, o, A, rfl, hlt, hA, h2, ?_, ?_, ?_, ?_, ?_, ?_⟩
    · exact (hb.cell (p := ⟨b, o + k * 6, none⟩) hlt).trans (h1 0 (by decide))
    · exact (hb.cell (p := ⟨b, o + k * 6 + 1, none⟩) hlt).trans (h1 1 (by decide))
    · exact (hb.cell (p := ⟨b, o + k * 6 + 2, none⟩) hlt).trans (h1 2 (by decide))
    · exact (hb.cell (p := ⟨b, o + k * 6 + 3, none⟩) hlt).trans (h1 3 (by decide))
    · exact (hb.cell (p := ⟨b, o + k * 6 + 4, none⟩) hlt).trans (h1 4 (by decide))
    · exact (hb.cell (p := ⟨b, o + k * 6 + 5, none⟩) hlt).trans (h1 5 (by decide))
set_option maxRecDepth 100000 in
theorem rd_acts {H : Type} {enc : TypeId × Value → H} {W : World} {base : Nat} {v : Value} {d : DataW H} {p : List MemPlace} (hv : Value.okWide Try.prog W .any base 22 v) (h : DataW.Trod enc Try.prog W 0 (fun _ => true) true 22 v d p) :
    ∃ As, AArg W v As := by
  obtain ⟨As, hx⟩ := rd_list Try.underlying22 (op_list (sz := 6) Try.underlying22 (by kernel_rfl) (by decide) (op_act (enc := enc) (W := W))) hv h
  exact ⟨As, acts_of hx⟩
/-- An act, as an argument. -/
def A1Arg (W : World) (v : Value) (A : ActM) : Prop := v = .agg A.cells.toArray ∧ ActIn W A
set_option maxRecDepth 100000 in
theorem rd_act {H : Type} {enc : TypeId × Value → H} {W : World} {base : Nat} {v : Value} {d : DataW H} {p : List MemPlace} (hv : Value.okWide Try.prog W .any base 34 v) (h : DataW.Trod enc Try.prog W 0 (fun _ => true) true 34 v d p) :
    ∃ A, A1Arg W v A := by
  obtain ⟨A, h1, h2⟩ := rd_of (op_act (enc := enc) (W := W)) h
  obtain ⟨arr, rfl, _⟩ := okWide_struct Try.underlying34 hv
  refine ⟨A, ?_, h2⟩
  have h1 : arr.toList = A.cells := by simpa [Value.cells] using h1
  rw [← h1]
theorem ba_app (l : List UInt8) (s : ByteArray) : (⟨l.toArray⟩ : ByteArray) ++ s = ⟨(l ++ s.data.toList).toArray⟩ := by
  have h : ((⟨l.toArray⟩ : ByteArray) ++ s).data.toList = l ++ s.data.toList := by
    rw [ByteArray.data_append, Array.toList_append]
  rw [← h]
set_option maxRecDepth 100000 in
theorem join_any (a : Option Addr) (m c : Nat) (ss : List ByteArray) (w : World) (hl : ss.length = m) (hm : m ≤ 1048576) (hz : Texts w a ss) (hb : (joinB ss).length ≤ 1048576) :
    Calls Try.prog 17 #[.slice a m c] w fun e w' => e = .returned (.string ⟨(joinB ss).toArray⟩) ∧ w = w' := by
  have HZ := Lib.hid hz
  have HL := Lib.hid hl
  clear hz hl
  go_enter Try.func17, Try.ntmps17
  go_wp2
  go_loop [3, 4] (fun sv iv => ∃ (k : Nat) (x : ByteArray), k ≤ m ∧ iv = .int .i64 (k : Int) ∧ sv = .string x ∧ Hid (x = ⟨(joinB (ss.take k)).toArray⟩)) (fun _ iv => m - (intOf iv).toNat)
  case atStart => exact ⟨0, ⟨#[]⟩, Nat.zero_le _, rfl, rfl, Lib.hid (by simp [joinB])⟩
  case round =>
    obtain ⟨k, x, hk, rfl, rfl, hx⟩ := hrel
    by_cases hlt : k < m
    · have hlt' : decide ((k : Int) < (m : Int)) = true := decide_eq_true (by omega)
      have hk0 : (0 : Int) ≤ (k : Int) := by omega
      have hk1 : (k : Int) < (m : Int) := by omega
      rcases HZ.out with h0 | ⟨_, b, o, rfl, hlt0, hc⟩
      · exfalso
        have := HL.out
        rw [h0] at this
        simp at this
        omega
      obtain ⟨s, hs⟩ : ∃ s, ss[k]? = some s := ⟨_, List.getElem?_eq_getElem (by rw [HL.out]; exact hlt)⟩
      have c0 := hc k s hs
      have HX := Lib.hid (show x ++ s = ⟨(joinB (ss.take (k + 1))).toArray⟩ by
        rw [hx.out, ba_app, List.take_add_one, hs, Option.toList_some, joinB_snoc])
      have hq : x.size + s.size ≤ 1048576 := by
        have h1 : (x ++ s).size = x.size + s.size := ByteArray.size_append
        have h2 : (joinB (ss.take (k + 1))).length ≤ (joinB ss).length := by
          conv => rhs; rw [← List.take_append_drop (k + 1) ss]
          unfold joinB
          rw [List.flatMap_append, List.length_append]
          omega
        have h3 : (x ++ s).size = (joinB (ss.take (k + 1))).length := by rw [HX.out, ba_len]
        omega
      clear hx hs hc
      go_wp2
      go_round
      case rel => exact ⟨k + 1, x ++ s, by omega, by go_num, rfl, HX⟩
      case measure => simp [intOf]; omega
    · have hlt' : decide ((k : Int) < (m : Int)) = false := decide_eq_false (by omega)
      have HX := Lib.hid (show x = ⟨(joinB ss).toArray⟩ by
        have := hx.out
        rwa [List.take_of_length_le (by rw [HL.out]; omega)] at this)
      clear hx
      go_wp2
      go_ret
      exact ⟨by rw [← HX.out]; rfl, rfl⟩
/-- Is there more in an act than is asked of? -/
def greatA (A : ActM) : Bool := decide (10 < A.ds.length) || decide (100 < A.name.size) || decide (100 < A.to.size) || A.ds.any fun s => decide (300 < s.size)
def greatL (As : List ActM) : Bool := decide (50 < As.length) || As.any greatA
set_option maxRecDepth 100000 in
set_option maxHeartbeats 2000000 in
theorem great_any (a : Option Addr) (m c : Nat) (As : List ActM) (w : World) (hl : As.length = m) (hz : Acts w a As) :
    Calls Try.prog 8 #[.slice a m c] w fun e w' => e = .returned (.bool (greatL As)) ∧ w = w' := by
  obtain ⟨R, hR⟩ : ∃ R, R = greatL As := ⟨_, rfl⟩
  rw [← hR]
  unfold greatL at hR
  by_cases h50 : 50 < m
  · have d : decide ((50 : Int) < (m : Int)) = true := decide_eq_true (by omega)
    rw [hl, decide_eq_true h50, Bool.true_or] at hR
    subst hR
    clear hz hl
    go_enter Try.func8, Try.ntmps8
    go_wp2
    go_ret
    exact ⟨rfl, rfl⟩
  have d : decide ((50 : Int) < (m : Int)) = false := decide_eq_false (by omega)
  rw [hl, decide_eq_false h50, Bool.false_or] at hR
  have HR := Lib.hid hR
  have HZ := Lib.hid hz
  have HL := Lib.hid hl
  have hm50 : m ≤ 50 := by omega
  clear hz hl hR h50
  go_enter Try.func8, Try.ntmps8
  go_wp2
  go_loop [3] (fun iv => ∃ k : Nat, k ≤ m ∧ iv = .int .i64 (k : Int) ∧ Hid (R = ((As.drop k).any greatA))) (fun iv => m - (intOf iv).toNat)
  case atStart => exact ⟨0, Nat.zero_le _, rfl, HR⟩
  case round =>
    obtain ⟨k, hk, rfl, hdr⟩ := hrel
    by_cases hlt : k < m
    · have hlt' : decide ((k : Int) < (m : Int)) = true := decide_eq_true (by omega)
      obtain ⟨b, o, A, rfl, hb, hAk, hin, c0, c1, c2, c3, c4, c5⟩ := HZ.out.at HL.out hlt (Below.refl _ _)
      have hst : R = (greatA A || ((As.drop (k + 1)).any greatA)) := by
        rw [hdr.out, List.drop_eq_getElem_cons (by rw [HL.out]; exact hlt), List.any_cons]
        rw [List.getElem?_eq_getElem (by rw [HL.out]; exact hlt)] at hAk
        injection hAk with hAk
        rw [hAk]
      have hk0 : (0 : Int) ≤ (k : Int) := by omega
      have hk1 : (k : Int) < (m : Int) := by omega
      have HDT := Lib.hid hin.dt
      have HDL := Lib.hid hin.dl
      have HST := Lib.hid hst
      clear hdr hAk hin hst
      obtain ⟨kind, name, to, da, dm, dc, ds, n, ka, km, kc, ks⟩ := A
      simp only [] at c0 c1 c2 c3 c4 c5 HDT HDL
      unfold greatA at HST
      simp only [] at HST
      rw [HDL.out] at HST
      by_cases q1 : 10 < dm
      · have e1 : decide ((10 : Int) < (dm : Int)) = true := decide_eq_true (by omega)
        have HT := Lib.hid (show R = true by rw [HST.out, decide_eq_true q1]; simp)
        clear HST q1
        go_wp2
        go_ret
        exact ⟨by rw [HT.out]; rfl, rfl⟩
      have e1 : decide ((10 : Int) < (dm : Int)) = false := decide_eq_false (by omega)
      by_cases q2 : 100 < name.size
      · have e2 : decide ((100 : Int) < (name.size : Int)) = true := decide_eq_true (by omega)
        have HT := Lib.hid (show R = true by rw [HST.out, decide_eq_true q2]; simp)
        clear HST q2
        go_wp2
        go_ret
        exact ⟨by rw [HT.out]; rfl, rfl⟩
      have e2 : decide ((100 : Int) < (name.size : Int)) = false := decide_eq_false (by omega)
      by_cases q3 : 100 < to.size
      · have e3 : decide ((100 : Int) < (to.size : Int)) = true := decide_eq_true (by omega)
        have HT := Lib.hid (show R = true by rw [HST.out, decide_eq_true q3]; simp)
        clear HST q3
        go_wp2
        go_ret
        exact ⟨by rw [HT.out]; rfl, rfl⟩
      have e3 : decide ((100 : Int) < (to.size : Int)) = false := decide_eq_false (by omega)
      have hst2 : R = ((ds.any fun s => decide (300 < s.size)) || ((As.drop (k + 1)).any greatA)) := by
        rw [HST.out, decide_eq_false q1, decide_eq_false q2, decide_eq_false q3]
        rfl
      have HS2 := Lib.hid hst2
      have hdm : dm ≤ 10 := by omega
      clear HST q1 q2 q3 hst2
      go_wp2
      go_loop [4] (fun jv => ∃ j : Nat, j ≤ dm ∧ jv = .int .i64 (j : Int) ∧ Hid (R = (((ds.drop j).any fun s => decide (300 < s.size)) || ((As.drop (k + 1)).any greatA)))) (fun jv => dm - (intOf jv).toNat)
      case atStart => exact ⟨0, Nat.zero_le _, rfl, HS2⟩
      case round =>
        obtain ⟨j, hj, rfl, hdj⟩ := hrel
        by_cases hjt : j < dm
        · have hjt' : decide ((j : Int) < (dm : Int)) = true := decide_eq_true (by omega)
          have hj0 : (0 : Int) ≤ (j : Int) := by omega
          have hj1 : (j : Int) < (dm : Int) := by omega
          rcases HDT.out with h0 | ⟨_, b2, o2, rfl, hlt2, hc⟩
          · exfalso
            have := HDL.out
            rw [h0] at this
            simp at this
            omega
          obtain ⟨s, hs⟩ : ∃ s, ds[j]? = some s := ⟨_, List.getElem?_eq_getElem (by rw [HDL.out]; exact hjt)⟩
          have s0 := hc j s hs
          have hsj : R = ((decide (300 < s.size) || ((ds.drop (j + 1)).any fun s => decide (300 < s.size))) || ((As.drop (k + 1)).any greatA)) := by
            rw [hdj.out, List.drop_eq_getElem_cons (by rw [HDL.out]; exact hjt), List.any_cons]
            rw [List.getElem?_eq_getElem (by rw [HDL.out]; exact hjt)] at hs
            injection hs with hs
            rw [hs]
          have HSJ := Lib.hid hsj
          clear hs hc hdj hsj
          by_cases q4 : 300 < s.size
          · have e4 : decide ((300 : Int) < (s.size : Int)) = true := decide_eq_true (by omega)
            have HT := Lib.hid (show R = true by rw [HSJ.out, decide_eq_true q4]; simp)
            clear HSJ q4
            go_wp2
            go_ret
            exact ⟨by rw [HT.out]; rfl, rfl⟩
          · have e4 : decide ((300 : Int) < (s.size : Int)) = false := decide_eq_false (by omega)
            have HN := Lib.hid (show R = (((ds.drop (j + 1)).any fun s => decide (300 < s.size)) || ((As.drop (k + 1)).any greatA)) by rw [HSJ.out, decide_eq_false q4, Bool.false_or])
            clear HSJ q4
            go_wp2
            go_round
            case rel => exact ⟨j + 1, by omega, by go_num, HN⟩
            case measure => simp [intOf]; omega
        · have hjt' : decide ((j : Int) < (dm : Int)) = false := decide_eq_false (by omega)
          have HN := Lib.hid (show R = ((As.drop (k + 1)).any greatA) by
            rw [hdj.out, List.drop_eq_nil_of_le (by rw [HDL.out]; omega)]; rfl)
          clear hdj
          go_wp2
          go_round
          case rel => exact ⟨k + 1, by omega, by go_num, HN⟩
          case measure => simp [intOf]; omega
    · have hlt' : decide ((k : Int) < (m : Int)) = false := decide_eq_false (by omega)
      have HT := Lib.hid (show R = false by rw [hdr.out, List.drop_eq_nil_of_le (by rw [HL.out]; omega)]; rfl)
      clear hdr
      go_wp2
      go_ret
      exact ⟨by rw [HT.out]; rfl, rfl⟩
end Go.Proofs.Ytmepanbfknmieaa
