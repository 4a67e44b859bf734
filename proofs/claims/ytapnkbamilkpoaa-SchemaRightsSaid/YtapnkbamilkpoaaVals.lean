/- Rows of values: as they lie in memory; Right of them. -/
import Derived.Test.YtapnkbamilkpoaaVal
import Derived.Test.YtapnkbamilkpoaaNumE
import Derived.Test.YtapnkbamilkpoaaRead
import Derived.Deep.Strs
namespace Go.Proofs.Ytapnkbamilkpoaa
open Go.RowKit Go.ChangeShapes Go.WideShapes Go.ChangeAt
/-- The slice value at a reads as the values vs. -/
def Vals (w : World) (a : Option Addr) (vs : List Val) : Prop := vs = [] ∨ vs ≠ [] ∧ ∃ b o, a = some ⟨b, o, none⟩ ∧ b < w.heap.size ∧
  ∀ i v, vs[i]? = some v → w.cell? ⟨b, o + i * 3, none⟩ = some (.int .i64 v.1) ∧ w.cell? ⟨b, o + i * 3 + 1, none⟩ = some (.int .i64 v.2.1) ∧ w.cell? ⟨b, o + i * 3 + 2, none⟩ = some (.string v.2.2)
theorem Vals.chg {S : Nat → Prop} {w w' : World} {a : Option Addr} {vs : List Val} (h : Vals w a vs) (hc : Chg S w w') (hs : vs ≠ [] → ∀ x, a = some x → ¬ S x.block) : Vals w' a vs := by
  rcases h with h | ⟨hn, b, o, rfl, hb, hz⟩
  · exact .inl h
  · refine .inr ⟨hn, b, o, rfl, Nat.lt_of_lt_of_le hb hc.size, fun i v hi => ?_⟩
    have hsb := hs hn ⟨b, o, none⟩ rfl
    obtain ⟨h1, h2, h3⟩ := hz i v hi
    exact ⟨(hc.cell (p := ⟨b, o + i * 3, none⟩) hb hsb).trans h1, (hc.cell (p := ⟨b, o + i * 3 + 1, none⟩) hb hsb).trans h2, (hc.cell (p := ⟨b, o + i * 3 + 2, none⟩) hb hsb).trans h3⟩
theorem Vals.below {w w' : World} {a : Option Addr} {vs : List Val} (h : Vals w a vs) (hb : Below w.heap.size w w') : Vals w' a vs := h.chg (S := fun _ => False) (Chg.ofBelow hb) (fun _ _ _ f => f)
/-- What the values' numbers are. -/
def ValsOk (vs : List Val) : Prop := ∀ v ∈ vs, (-9223372036854775808 ≤ v.1 ∧ v.1 ≤ 9223372036854775807) ∧ (-9223372036854775808 ≤ v.2.1 ∧ v.2.1 ≤ 9223372036854775807) ∧ v.2.2.size ≤ maxLen
def RVal : Rdr Val := fun _ cs v => cs = [.int .i64 v.1, .int .i64 v.2.1, .string v.2.2] ∧ (Lit.int .i64 v.1).wf = true ∧ (Lit.int .i64 v.2.1).wf = true ∧ v.2.2.size ≤ maxLen
theorem kp_val : Kp RVal := fun _ _ _ _ h _ => h
def R3 {α β γ : Type} (n m : Nat) (R : Rdr α) (S : Rdr β) (T : Rdr γ) : Rdr (α × β × γ) := fun W cs v => R W (cs.take n) v.1 ∧ S W ((cs.drop n).take m) v.2.1 ∧ T W (cs.drop (n + m)) v.2.2
theorem op_3 {H : Type} {enc : TypeId × Value → H} {P : Program} {W : World} {α β γ : Type} {R : Rdr α} {S : Rdr β} {T : Rdr γ} {t : TypeId} {f0 f1 f2 : Field} {n m : Nat} (ht : P.underlying t = some (.struct #[f0, f1, f2])) (h0 : f0.offset = 0) (h0' : P.cellsOf f0.type = n)
    (h1 : f1.offset = n) (h1' : P.cellsOf f1.type = m) (h2 : f2.offset = n + m) (h2' : P.cellsOf t = n + m + P.cellsOf f2.type) (ho : Op enc P W f0.type R) (ho' : Op enc P W f1.type S) (ho'' : Op enc P W f2.type T) : Op enc P W t (R3 n m R S T) := by
  intro fuel cs x h
  obtain ⟨y0, y1, y2, k, _, hl, k0, k1, k2⟩ := Go.Deep.trod_struct3 ht h
  rw [h0, h0', List.drop_zero] at k0
  rw [h1, h1'] at k1
  rw [h2, List.take_of_length_le (by rw [List.length_drop]; omega)] at k2
  obtain ⟨v, hv⟩ := ho _ _ _ k0
  obtain ⟨u, hu⟩ := ho' _ _ _ k1
  obtain ⟨z, hz⟩ := ho'' _ _ _ k2
  exact ⟨(v, u, z), hv, hu, hz⟩
theorem op_val (H : Type) (enc : TypeId × Value → H) (W : World) : Op enc Try.prog W 55 RVal := by
  intro fuel cs x h
  obtain ⟨v, ⟨h1, w1⟩, ⟨h2, w2⟩, h3, w3⟩ := op_3 (n := 1) (m := 1) Try.underlying55 rfl (by kernel_rfl) rfl (by kernel_rfl) rfl (by kernel_rfl) (op_int (enc := enc) (W := W) Try.underlying3) (op_int Try.underlying2) (op_str Try.underlying9) fuel cs x h
  refine ⟨v, ?_, w1, w2, w3⟩
  have e1 : cs = cs.take 1 ++ ((cs.drop 1).take 1 ++ cs.drop (1 + 1)) := by
    rw [show cs.drop (1 + 1) = (cs.drop 1).drop 1 by rw [List.drop_drop], List.take_append_drop, List.take_append_drop]
  rw [e1, h1, h2, h3]
  rfl
/-- An argument that is a row of values. -/
theorem vals_of {W : World} {v : Value} {vs : List Val} (h : RL 3 RVal W [v] vs) : ∃ a m c, v = .slice a m c ∧ vs.length = m ∧ m ≤ c ∧ c ≤ maxLen ∧ Vals W a vs ∧ ValsOk vs := by
  obtain ⟨a, m, c, h1, h2, h3, h4, h5⟩ := h
  refine ⟨a, m, c, by simpa using h1, h2, h3, h4, ?_⟩
  rcases h5 with rfl | ⟨hn, b, o, ha, hlt, h5⟩
  · exact ⟨.inl rfl, fun v hv => by cases hv⟩
  · refine ⟨.inr ⟨hn, b, o, ha, hlt, fun i v hi => ?_⟩, fun v hv => ?_⟩
    · obtain ⟨cs', k1, k2, k3, _⟩ := h5 i v hi
      rw [k3] at k2
      exact ⟨k2 0 (by decide), k2 1 (by decide), k2 2 (by decide)⟩
    · obtain ⟨i, hi, rfl⟩ := List.mem_iff_getElem.1 hv
      obtain ⟨cs', _, _, _, w1, w2, w3⟩ := h5 i _ (List.getElem?_eq_getElem hi)
      exact ⟨wf_i64 w1, wf_i64 w2, w3⟩
set_option maxRecDepth 100000 in
set_option maxHeartbeats 1000000 in
theorem right_all (a : Option Addr) (m c : Nat) (vs : List Val) (w : World) (hl : vs.length = m) (hm : m ≤ 1048576) (hv : Vals w a vs) :
    Calls Try.prog 64 #[.slice a m c] w fun e w' => e = .returned (.bool (vs.all vright)) ∧ Below w.heap.size w w' := by
  obtain ⟨r, hr⟩ : ∃ r, r = vs.all vright := ⟨_, rfl⟩
  rw [← hr]
  have HL := Lib.hid hl
  have HR0 : Hid (r = (vs.drop 0).all vright) := by rw [List.drop_zero]; exact hr
  clear hl hr
  go_enter Try.func64, Try.ntmps64
  go_wp2
  go_loopw [7] (fun i wr => ∃ k : Nat, k ≤ m ∧ i = .int .i64 (k : Int) ∧ Hid (r = (vs.drop k).all vright) ∧ Below w.heap.size w wr) (fun i _ => m - (intOf i).toNat)
  case atStart => exact ⟨0, Nat.zero_le _, rfl, HR0, Below.refl _ _⟩
  case round =>
    obtain ⟨k, hk, rfl, HR, hbel⟩ := hrel
    clear HR0
    have hszr := hbel.size
    by_cases hlt : k < m
    · have hlt' : decide ((k : Int) < (m : Int)) = true := decide_eq_true (by omega)
      rcases hv with hv | ⟨hne, b, o, rfl, hb, hz⟩
      · have := HL.out
        rw [hv] at this
        simp at this
        omega
      obtain ⟨v, hvk⟩ : ∃ v, vs[k]? = some v := ⟨_, List.getElem?_eq_getElem (by rw [HL.out]; exact hlt)⟩
      obtain ⟨z0, z1, z2⟩ := hz k v hvk
      clear hz
      have hdr : r = (vright v && (vs.drop (k + 1)).all vright) := by
        rw [HR.out, List.drop_eq_getElem_cons (by rw [HL.out]; exact hlt), List.all_cons]
        rw [List.getElem?_eq_getElem (by rw [HL.out]; exact hlt)] at hvk
        injection hvk with hvk
        rw [hvk]
      have c0 := (hbel.cell (p := ⟨b, o + k * 3, none⟩) hb).trans z0
      have c1 := (hbel.cell (p := ⟨b, o + k * 3 + 1, none⟩) hb).trans z1
      have c2 := (hbel.cell (p := ⟨b, o + k * 3 + 2, none⟩) hb).trans z2
      clear z0 z1 z2 hvk HR
      have HD := Lib.hid hdr
      clear hdr
      go_wp2_with fail
      refine (right_any v _).mono ?_
      rintro e w1 ⟨rfl, hb1⟩
      have hb2 := Below.thenB (hbel.alloc hszr (.cells #[.int .i64 v.1, .int .i64 v.2.1, .string v.2.2] 55)) (by simp; omega) hb1
      cases hvr : vright v with
      | false =>
        have hrf := HD.out
        rw [hvr, Bool.false_and] at hrf
        have HF := Lib.hid hrf
        clear hrf hvr
        go_wp2
        go_ret
        exact ⟨by rw [HF.out]; rfl, hb2⟩
      | true =>
        have hrt := HD.out
        rw [hvr, Bool.true_and] at hrt
        have HT := Lib.hid hrt
        clear hrt hvr
        go_wp2
        go_roundw
        case rel => exact ⟨k + 1, by omega, by go_num, HT, hb2⟩
        case measure => simp [intOf]; omega
    · have hlt' : decide ((k : Int) < (m : Int)) = false := decide_eq_false (by omega)
      have hrt : r = true := by rw [HR.out, List.drop_eq_nil_of_le (by rw [HL.out]; omega)]; rfl
      have HT := Lib.hid hrt
      clear hrt HR
      go_wp2
      go_ret
      exact ⟨by rw [HT.out]; rfl, hbel⟩
end Go.Proofs.Ytapnkbamilkpoaa
