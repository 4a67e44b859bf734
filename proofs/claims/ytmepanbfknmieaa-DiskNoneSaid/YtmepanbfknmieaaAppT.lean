/- append of texts to a text laid as a list: the texts, one behind the other, in memory of its own. -/
import Derived.Test.YtmepanbfknmieaaTexts
import Derived.Test.YtmepanbfknmieaaB8
import Derived.Test.YtmepanbfknmieaaDisk18
import Derived.Deep.AppendLies
namespace Go.Proofs.Ytmepanbfknmieaa
open Go.RowKit
theorem load_none {P : Program} {w : World} (a : Addr) : (loadCells a 0).run P w = .ok #[] w := by simp [loadCells, loadCellsFrom]
theorem run_append_none {P : Program} {w : World} (base : Nat) (t ty e : TypeId) (i : TypeInfo) (size : Nat) (ht : P.underlying t = some (.slice e)) (hi : P.info? e = some i)
    (v : Value) (n : Nat) (xs : List Value) (hown : w.ownsRow base e size v n xs) (a : Option Addr) (c : Nat) :
    (Builtin.append_ #[t, t] ty #[v, .slice a 0 c]).run P w = .ok v w := by
  rcases hown.2 with ⟨rfl, rfl⟩ | ⟨g, cap, cur, rfl, _, _, hnc, _⟩
  · cases a <;> simp [Builtin.append_, run_underlying ht, sizeOf, typeInfo, hi, Builtin.lenOf, Builtin.firstCells, load_none]
  · cases a <;> simp [Builtin.append_, run_underlying ht, sizeOf, typeInfo, hi, Builtin.lenOf, Builtin.firstCells, hnc, storeCells, load_none]
theorem wpList_append_none {P : Program} {w : World} {ops : Array Oper} {rest : List Oper} {o : Oper} {a : Act} {Q : Exit → Act → World → Prop} (hgd : o.guard = none) (s x : Operand) (t : TypeId)
    (ho : o.op = .call { callee := .builtin .append, args := #[s, x], argTypes := #[t, t] })
    (base : Nat) (e : TypeId) (i : TypeInfo) (size : Nat) (ht : P.underlying t = some (.slice e)) (hi : P.info? e = some i)
    (v : Value) (n : Nat) (xs : List Value) (hs : a.eval s = v) (hown : w.ownsRow base e size v n xs) (ad : Option Addr) (c : Nat) (hx : a.eval x = .slice ad 0 c)
    (h : wpList P ops Q rest (a.put o.dst v) w) : wpList P ops Q (o :: rest) a w := by
  refine wpList_plain hgd fun K hK => ?_
  have hrun := run_append_none (P := P) (w := w) base t o.type e i size ht hi v n xs hown ad c
  unfold Oper.wp
  simp [execOp, ho, resolve, invoke, builtin, hs, hx, hrun, Result.andThen]
  exact hK _ _ h
theorem strs_texts {w : World} {base : Nat} {a : Option Addr} {c n : Nat} {ss : List ByteArray} (hn : ss.length = n) (h : w.ownsRow base 9 1 (.slice a n c) n (ss.map Value.string)) : Texts w a ss ∧ ∀ x, a = some x → base ≤ x.block := by
  subst hn
  rcases h.2 with ⟨hv, h0⟩ | ⟨g, cap, cur, hv, hb, hg, _⟩
  · injection hv with e1 e2 e3
    have : ss = [] := List.eq_nil_of_length_eq_zero h0
    subst this
    exact ⟨.inl rfl, fun x hx => by rw [e1] at hx; cases hx⟩
  · injection hv with e1 e2 e3
    subst e1
    refine ⟨?_, fun x hx => by injection hx with hx; subst hx; exact hb⟩
    cases ss with
    | nil => exact .inl rfl
    | cons t r =>
      refine .inr ⟨by simp, g, 0, rfl, (Array.getElem?_eq_some_iff.1 hg).1, fun i s hi => ?_⟩
      have hc := h.cells (g := g) rfl i (.string s) (by rw [List.getElem?_map, hi]; rfl)
      rw [← hc]
      congr 1
      unfold Addr.add
      simp
set_option maxRecDepth 100000 in
/-- The texts xs, laid in a row of the call's own, and the texts ss behind them. -/
theorem wpList_app_texts {w : World} {ops : Array Oper} {rest : List Oper} {o : Oper} {a : Go.Act} {Q : Exit → Go.Act → World → Prop} (hgd : o.guard = none) (sl x : Operand)
    (ho : o.op = .call { callee := .builtin .append, args := #[sl, x], argTypes := #[31, 31] })
    (base : Nat) (v : Value) (n : Nat) (xs : List ByteArray) (hxn : xs.length = n) (hn1 : n ≤ 1048576) (hs : a.eval sl = v) (hown : w.ownsRow base 9 1 v n (xs.map Value.string)) (hbase : base ≤ w.heap.size)
    (ad : Option Addr) (m c : Nat) (ss : List ByteArray) (hl : ss.length = m) (hm : m ≤ 1048576) (hz : Texts w ad ss) (hx : a.eval x = .slice ad m c)
    (h : ∀ (a' : Option Addr) (c' : Nat) (w' : World), w'.ownsRow base 9 1 (.slice a' (n + m) c') (n + m) ((xs ++ ss).map Value.string) → Below base w w' → wpList Try.prog ops Q rest (a.put o.dst (.slice a' (n + m) c')) w') : wpList Try.prog ops Q (o :: rest) a w := by
  obtain ⟨i0, hi, hz0, hz1, hz2⟩ := info_parts info_str
  rcases Nat.eq_zero_or_pos m with rfl | hpos
  · have hse : ss = [] := List.eq_nil_of_length_eq_zero hl
    subst hse
    obtain ⟨a', c', rfl⟩ : ∃ a' c', v = .slice a' n c' := by
      rcases hown.2 with ⟨hv, h0⟩ | ⟨g, cap, cur, hv, _⟩
      · exact ⟨none, 0, by rw [hv, h0]⟩
      · exact ⟨_, _, hv⟩
    refine wpList_append_none hgd sl x 31 ho base 9 i0 1 Try.underlying31 hi _ n _ hs hown ad c hx ?_
    have := h a' c' w (by rw [List.append_nil]; exact hown) ((Below.refl w.heap.size w).mono hbase)
    simpa using this
  · rcases hz with h0 | ⟨_, b, o2, rfl, hlt, hc⟩
    · rw [h0] at hl; simp at hl; omega
    refine wpList_append_lies w hgd sl x 31 ho base 9 i0 (.string ⟨#[]⟩) 1 16 Try.underlying31 hi hz0 hz1 hz2 rfl (by decide) v n _ hs hown ⟨b, o2, none⟩ m c (ss.map Value.string) hx (by rw [List.length_map, hl, Nat.mul_one]) (fun j u hu => ?_) (fun u hu => ?_) hpos (by unfold maxLen; omega) (by omega) hbase w.heap.size rfl ?_
    · rw [List.getElem?_map, Option.map_eq_some_iff] at hu
      obtain ⟨s, hs', rfl⟩ := hu
      have hadd : (⟨b, o2, none⟩ : Addr).add j = ⟨b, o2 + j, none⟩ := by unfold Addr.add; split <;> simp_all
      rw [hadd]
      exact hc j s hs'
    · obtain ⟨s, _, rfl⟩ := List.mem_map.1 hu
      rfl
    · intro g cap w' hown' hgr hg _
      refine h _ _ w' (by rw [List.map_append]; exact hown') ((Below.refl w.heap.size w).mono hbase |>.grown hgr hbase (fun k hk => (hown.lt k hk).1))
end Go.Proofs.Ytmepanbfknmieaa
