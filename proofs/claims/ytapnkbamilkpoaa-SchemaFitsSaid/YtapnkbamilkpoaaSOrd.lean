/- Keys by an index stand as what they pick. No walk. -/
import Derived.Test.YtapnkbamilkpoaaSKey2
import Derived.Test.YtapnkbamilkpoaaSch78
import Derived.Test.YtapnkbamilkpoaaRowsC
import Derived.Test.YtapnkbamilkpoaaKeyOrder
namespace Go.Proofs.Ytapnkbamilkpoaa
open Go.RowKit
theorem fits_all {cs : List Col} {vs : List Val} (h : fitsB cs vs = true) : vs.length = cs.length ∧ vs.all vright = true := by
  have hl : vs.length = cs.length := by
    unfold fitsB at h
    simp only [Bool.and_eq_true, decide_eq_true_eq] at h
    exact h.1.symm
  refine ⟨hl, List.all_eq_true.2 fun v hv => ?_⟩
  obtain ⟨i, hi, rfl⟩ := List.mem_iff_getElem.1 hv
  exact fits_right h (List.getElem?_eq_getElem hi)
theorem places_of {n : Nat} {ps : List Int} (h : placesB (n : Int) ps = true) : ps.all (therB n) = true := by
  unfold placesB at h
  simp only [Bool.and_eq_true, decide_eq_true_eq, List.all_eq_true] at h
  refine List.all_eq_true.2 fun p hp => ?_
  have := h.1.2 p hp
  unfold placeB at this
  unfold therB
  exact this
theorem right_places {S : Sch} (h : srightB S = true) {x : Idx} (hx : x ∈ S.xs) : placesB (S.cs.length : Int) x.ps = true := by
  have h2 := (right_parts h).2
  unfold idxsB at h2
  simp only [Bool.and_eq_true, List.all_eq_true] at h2
  exact h2.1.2 x hx
/-- What is picked of a row that fits. -/
theorem pick_fits {S : Sch} (h : srightB S = true) {x : Idx} (hx : x ∈ S.xs) {vs : List Val} (hf : fitsB S.cs vs = true) : pickS vs x.ps = pickL vs x.ps ∧ (pickL vs x.ps).length = x.ps.length ∧ (pickL vs x.ps).all vright = true := by
  obtain ⟨hl, hr⟩ := fits_all hf
  have hp := places_of (right_places h hx)
  rw [← hl] at hp
  refine ⟨by unfold pickS; rw [if_pos hp], by unfold pickL; rw [List.length_map], List.all_eq_true.2 fun v hv => ?_⟩
  unfold pickL at hv
  obtain ⟨p, hp1, rfl⟩ := List.mem_map.1 hv
  have h3 := List.all_eq_true.1 hp p hp1
  unfold therB at h3
  simp only [Bool.and_eq_true, decide_eq_true_eq] at h3
  have h4 : p.toNat < vs.length := by omega
  rw [List.getD_eq_getElem?_getD, List.getElem?_eq_getElem h4]
  exact List.all_eq_true.1 hr _ (List.getElem_mem h4)
theorem keys_eqlen (a b : List Val) (hl : a.length = b.length) (ha : a.all vright = true) (hb : b.all vright = true) (oa : ValsOk a) (ob : ValsOk b) :
    (vrows a b = -1 ∧ Dif (vkeys a) (vkeys b)) ∨ (vrows a b = 0 ∧ a = b) ∨ (vrows a b = 1 ∧ Dif (vkeys b) (vkeys a)) := by
  rcases keys_cmp a b ha hb oa ob with ⟨h, h' | ⟨v, r, rfl⟩⟩ | h | ⟨h, h' | ⟨v, r, rfl⟩⟩
  · exact .inl ⟨h, h'⟩
  · simp at hl
  · exact .inr (.inl h)
  · exact .inr (.inr ⟨h, h'⟩)
  · simp at hl
/-- How two rows that fit stand. -/
def wayS (S : Sch) (x : Idx) (us vs : List Val) : Int := if vrows (pickS us x.ps) (pickS vs x.ps) = 0 ∧ x.u = false then (match S.xs with | z :: _ => vrows (pickS us z.ps) (pickS vs z.ps) | [] => 0) else vrows (pickS us x.ps) (pickS vs x.ps)
def Stood (x y : List UInt8) (way : Int) : Prop := (way = -1 ∧ Dif x y) ∨ (way = 0 ∧ x = y) ∨ (way = 1 ∧ Dif y x)
theorem stood_less {x y : List UInt8} {way : Int} (h : Stood x y way) : Op.bytesLess x y = decide (way < 0) ∧ (x == y) = (way == 0) := by
  rcases h with ⟨rfl, h⟩ | ⟨rfl, rfl⟩ | ⟨rfl, h⟩
  · refine ⟨h.less, ?_⟩
    have : (x == y) = false := beq_false_of_ne (fun e => by have := h.less; have h2 := h.more; rw [e] at this h2; rw [this] at h2; cases h2)
    rw [this]; rfl
  · exact ⟨bl_irrefl _, by simp⟩
  · refine ⟨h.more, ?_⟩
    have : (x == y) = false := beq_false_of_ne (fun e => by have := h.less; have h2 := h.more; rw [e] at this h2; rw [this] at h2; cases h2)
    rw [this]; rfl
theorem skeys_math {S : Sch} (h : srightB S = true) {x : Idx} (hx : x ∈ S.xs) {us vs : List Val} (fu : fitsB S.cs us = true) (fv : fitsB S.cs vs = true) (ou : ValsOk us) (ov : ValsOk vs) : Stood (keyS S x us) (keyS S x vs) (wayS S x us vs) := by
  obtain ⟨u1, u2, u3⟩ := pick_fits h hx fu
  obtain ⟨v1, v2, v3⟩ := pick_fits h hx fv
  have oa := pickS_ok ou x.ps
  have ob := pickS_ok ov x.ps
  have hc := keys_eqlen (pickS us x.ps) (pickS vs x.ps) (by rw [u1, v1, u2, v2]) (by rw [u1]; exact u3) (by rw [v1]; exact v3) oa ob
  have r1 : rowKey (pickS us x.ps) = vkeys (pickS us x.ps) := by unfold rowKey; rw [if_pos (by rw [u1]; exact u3)]
  have r2 : rowKey (pickS vs x.ps) = vkeys (pickS vs x.ps) := by unfold rowKey; rw [if_pos (by rw [v1]; exact v3)]
  unfold keyS wayS
  rw [r1, r2]
  rcases hc with ⟨w1, d1⟩ | ⟨w1, d1⟩ | ⟨w1, d1⟩
  · rw [w1, if_neg (fun h : (-1 : Int) = 0 ∧ x.u = false => by have := h.1; omega)]
    exact .inl ⟨rfl, d1.post _ _⟩
  · rw [w1, d1]
    cases hu : x.u with
    | true =>
      rw [if_pos rfl, if_neg (fun h : (0 : Int) = 0 ∧ true = false => Bool.noConfusion h.2)]
      exact .inr (.inl ⟨rfl, rfl⟩)
    | false =>
      rw [if_neg Bool.false_ne_true, if_neg Bool.false_ne_true, if_pos ⟨rfl, rfl⟩]
      cases hxs : S.xs with
      | nil => exact .inr (.inl ⟨rfl, rfl⟩)
      | cons z rest =>
        have hz : z ∈ S.xs := by rw [hxs]; exact List.mem_cons_self ..
        obtain ⟨p1, p2, p3⟩ := pick_fits h hz fu
        obtain ⟨q1, q2, q3⟩ := pick_fits h hz fv
        have hd := keys_eqlen (pickS us z.ps) (pickS vs z.ps) (by rw [p1, q1, p2, q2]) (by rw [p1]; exact p3) (by rw [q1]; exact q3) (pickS_ok ou z.ps) (pickS_ok ov z.ps)
        have s1 : rowKey (pickS us z.ps) = vkeys (pickS us z.ps) := by unfold rowKey; rw [if_pos (by rw [p1]; exact p3)]
        have s2 : rowKey (pickS vs z.ps) = vkeys (pickS vs z.ps) := by unfold rowKey; rw [if_pos (by rw [q1]; exact q3)]
        simp only
        rw [s1, s2]
        rcases hd with ⟨w2, d2⟩ | ⟨w2, d2⟩ | ⟨w2, d2⟩
        · exact .inl ⟨w2, d2.pre _⟩
        · exact .inr (.inl ⟨w2, by rw [d2]⟩)
        · exact .inr (.inr ⟨w2, d2.pre _⟩)
  · rw [w1, if_neg (fun h : (1 : Int) = 0 ∧ x.u = false => by have := h.1; omega)]
    exact .inr (.inr ⟨rfl, d1.post _ _⟩)
end Go.Proofs.Ytapnkbamilkpoaa
