/- Contract of the document's Parse of numbers. -/
import Derived.Test.YtfoejfneggcncaaDoorTextR
import Derived.Deep.RegionLaw
import Derived.Deep.AppendLies
namespace Go.Proofs.YtfoejfneggcncaaDoor
open Go.RowKit
def pN : Option Int → Int
  | none => 0
  | some V => okN V
def pE : Option Int → Int
  | none => 12
  | some V => erN V
theorem parV_eq (l : List UInt8) (f : Nat) (hd : Lib.trimPrefix l [45] = l.drop f) (hn : Lib.hasPrefix l [45] = decide (f = 1)) :
    parV l = if numB (l.drop f) && !(decide (f = 1) && (l.drop f == [48])) then some (sgnV (decide (f = 1)) (dreadV 0 (l.drop f))) else none := by
  unfold parV sgnV
  rw [hd, hn]
theorem parV_bad {l : List UInt8} {f : Nat} (hd : Lib.trimPrefix l [45] = l.drop f) (hn : Lib.hasPrefix l [45] = decide (f = 1)) (h : (l.drop f).all isDig = false) : parV l = none := by
  rw [parV_eq l f hd hn]
  have : numB (l.drop f) = false := by unfold numB; rw [h, Bool.and_false]
  rw [this]; rfl
theorem parV_empty {l : List UInt8} {f : Nat} (hd : Lib.trimPrefix l [45] = l.drop f) (hn : Lib.hasPrefix l [45] = decide (f = 1)) (h : l.length = f) : parV l = none := by
  rw [parV_eq l f hd hn]
  have : l.drop f = [] := List.drop_eq_nil_of_le (by omega)
  rw [this]; rfl
theorem drop_cons' (l : List UInt8) (f : Nat) (h : f < l.length) : l.drop f = l[f] :: l.drop (f + 1) := List.drop_eq_getElem_cons h
theorem parV_nought {l : List UInt8} {f : Nat} (hd : Lib.trimPrefix l [45] = l.drop f) (hn : Lib.hasPrefix l [45] = decide (f = 1)) (hf : f ≤ 1) (h : f < l.length) (h0 : l[f] = 48) (h1 : 1 < l.length) : parV l = none := by
  rw [parV_eq l f hd hn, drop_cons' l f h, h0]
  by_cases he : l.drop (f + 1) = []
  · have : l.length ≤ f + 1 := by simpa using he
    have hf1 : f = 1 := by omega
    rw [he, hf1]; rfl
  · have e1 : ((48 : UInt8) :: l.drop (f + 1) == [48]) = false := by
      apply beq_false_of_ne
      intro e
      injection e with _ e
      exact he e
    unfold numB
    rw [e1]; rfl
theorem parV_some {l : List UInt8} {f : Nat} (hd : Lib.trimPrefix l [45] = l.drop f) (hn : Lib.hasPrefix l [45] = decide (f = 1)) (h : f < l.length) (ha : (l.drop f).all isDig = true) (h0 : l[f] ≠ 48 ∨ l.length ≤ 1) :
    parV l = some (sgnV (decide (f = 1)) (dreadV 0 (l.drop f))) := by
  rw [parV_eq l f hd hn]
  rw [drop_cons' l f h] at *
  have key : numB (l[f] :: l.drop (f + 1)) = true ∧ ((decide (f = 1) && ((l[f] :: l.drop (f + 1)) == [48])) = false) := by
    unfold numB
    rw [ha]
    rcases h0 with h0 | h0
    · have e1 : ((l[f] :: l.drop (f + 1)) == [48]) = false := by
        apply beq_false_of_ne
        intro e
        injection e with e _
        exact h0 e
      have e2 : ((l[f] :: l.drop (f + 1)).head? == some 48) = false := by
        apply beq_false_of_ne
        intro e
        injection e with e
        exact h0 e
      rw [e1, e2, Bool.and_false]
      exact ⟨rfl, rfl⟩
    · have e1 : l.drop (f + 1) = [] := List.drop_eq_nil_of_le (by omega)
      have e2 : f = 0 := by omega
      subst e2
      rw [e1]
      generalize l[0] = c
      refine ⟨?_, rfl⟩
      by_cases hc : c = 48
      · rw [hc]; rfl
      · have e2 : (([c] : List UInt8).head? == some 48) = false := by
          apply beq_false_of_ne
          intro e
          injection e with e
          exact hc e
        rw [e2]; rfl
  rw [key.1, key.2]
  rfl
theorem pre_yes (l : List UInt8) (h : 0 < l.length) (h0 : l[0] = 45) : Lib.trimPrefix l [45] = l.drop 1 ∧ Lib.hasPrefix l [45] = decide (1 = 1) := by
  cases l with
  | nil => simp at h
  | cons c r =>
    simp only [List.getElem_cons_zero] at h0
    subst h0
    simp [Lib.trimPrefix, Lib.hasPrefix, List.isPrefixOf]
theorem pre_no (l : List UInt8) (h : l = [] ∨ ∃ c r, l = c :: r ∧ c ≠ 45) : Lib.trimPrefix l [45] = l.drop 0 ∧ Lib.hasPrefix l [45] = decide (0 = 1) := by
  rcases h with rfl | ⟨c, r, rfl, h⟩
  · simp [Lib.trimPrefix, Lib.hasPrefix, List.isPrefixOf]
  · have : ((45 : UInt8) == c) = false := beq_false_of_ne (fun e => h e.symm)
    simp [Lib.trimPrefix, Lib.hasPrefix, List.isPrefixOf, this]
theorem own_far {w w1 : World} {base : Nat} {e : TypeId} {size : Nat} {v : Value} {n : Nat} {xs : List Value} (hown : w.ownsRow base e size v n xs) {o : Obj} (hg : ((w.alloc o).drew).grownBy w1 v.ownBlock) {A : Nat} (i : Nat) (hA : A < base) (hw : A < w.heap.size) :
    w1.cell? ⟨A, i, none⟩ = w.cell? ⟨A, i, none⟩ ∧ w1.frozen? ⟨A, i, none⟩ = w.frozen? ⟨A, i, none⟩ := by
  have hb : w1.heap[A]? = w.heap[A]? := by
    rw [hg.block A (by simp; omega) (fun e => by have := (hown.lt _ e.symm).1; omega)]
    exact Below.heap_alloc _ _ _ hw
  exact ⟨World.cell?_of_block hb, World.frozen?_of_block hb⟩
theorem own_set {w : World} {base : Nat} {e : TypeId} {size : Nat} {v : Value} {n : Nat} {xs : List Value} (h : w.ownsRow base e size v n xs) {A i : Nat} {u : Value} (hA : A < base) : (w.setCell ⟨A, i, none⟩ u).ownsRow base e size v n xs := by
  refine h.kept (row := some A) ⟨rfl, rfl, rfl, by simp [World.setCell], fun k _ hk => Below.heap_setCell _ _ _ _ (fun e => hk (by rw [e]))⟩ ?_
  cases hv : v.ownBlock with
  | none => exact .inl rfl
  | some g =>
    refine .inr (fun e => ?_)
    have := (h.lt g hv).1
    injection e with e
    omega
theorem not_all {l : List UInt8} {f k : Nat} {c : UInt8} {r : List UInt8} (hk : f ≤ k) (hd : l.drop k = c :: r) (hc : isDig c = false) : (l.drop f).all isDig = false := by
  rw [List.all_eq_false]
  refine ⟨c, ?_, by simp [hc]⟩
  have : l.drop k = (l.drop f).drop (k - f) := by rw [List.drop_drop]; congr 1; omega
  exact List.mem_of_mem_drop (i := k - f) (by rw [← this, hd]; simp)
theorem sgn_abs (x : Bool) {d : Int} (h : 0 ≤ d) : ((sgnV x d).natAbs : Int) = d := by
  unfold sgnV
  cases x <;> simp <;> omega
theorem fin_yes {V U : Int} (h : V = U) (hin : (!inB V) = false) : Ending.returned (.tuple #[.int .i64 (okN V), .int .i64 0]) = .returned (.tuple #[.int .i64 (pN (some U)), .int .i64 (pE (some U))]) := by
  subst h
  have : inB V = true := by simpa using hin
  have he := er_in V
  rw [this] at he
  unfold pN pE
  simp only []
  rw [he]; rfl
theorem fin_no {V U : Int} (h : V = U) (hin : (!inB V) = true) : Ending.returned (.tuple #[.int .i64 0, .int .i64 2]) = .returned (.tuple #[.int .i64 (pN (some U)), .int .i64 (pE (some U))]) := by
  subst h
  have : inB V = false := by simpa using hin
  have he := er_in V
  rw [this] at he
  have ho : okN V = 0 := by
    unfold inB at this
    unfold okN
    rw [if_neg (by simpa using this)]
  unfold pN pE
  simp only []
  rw [he, ho]; rfl
theorem byte_get (s : ByteArray) (i : Nat) (h : i < s.size) : s.data.toList[i]'(by rw [← Lib.size_eq]; exact h) = s[i] := by
  rw [Array.getElem_toList]; rfl
end Go.Proofs.YtfoejfneggcncaaDoor
