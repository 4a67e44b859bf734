/- Lists of texts: as they lie in memory, as arguments. -/
import Derived.Test.YtmepanbfknmieaaWorld
import Derived.Test.YtmepanbfknmieaaRows
import Derived.Test.YtmepanbfknmieaaRead
namespace Go.Proofs.Ytmepanbfknmieaa
open Go.RowKit Go.ChangeShapes Go.WideShapes Go.ChangeAt
/-- The slice value at a reads as the texts ss. -/
def Texts (w : World) (a : Option Addr) (ss : List ByteArray) : Prop := ss = [] ∨ ss ≠ [] ∧ ∃ b o, a = some ⟨b, o, none⟩ ∧ b < w.heap.size ∧ ∀ i s, ss[i]? = some s → w.cell? ⟨b, o + i, none⟩ = some (.string s)
theorem Texts.chg {S : Nat → Prop} {w w' : World} {a : Option Addr} {ss : List ByteArray} (h : Texts w a ss) (hc : Chg S w w') (hs : ss ≠ [] → ∀ x, a = some x → ¬ S x.block) : Texts w' a ss := by
  rcases h with h | ⟨hn, b, o, rfl, hb, hz⟩
  · exact .inl h
  · refine .inr ⟨hn, b, o, rfl, Nat.lt_of_lt_of_le hb hc.size, fun i s hi => ?_⟩
    exact (hc.cell (p := ⟨b, o + i, none⟩) hb (hs hn ⟨b, o, none⟩ rfl)).trans (hz i s hi)
theorem Texts.below {w w' : World} {a : Option Addr} {ss : List ByteArray} (h : Texts w a ss) (hb : Below w.heap.size w w') : Texts w' a ss := h.chg (S := fun _ => False) (Chg.ofBelow hb) (fun _ _ _ f => f)
theorem Texts.off {w : World} {a : Option Addr} {ss : List ByteArray} (h : Texts w a ss) {B : Nat} (hB : w.heap.size ≤ B) : ss ≠ [] → ∀ x, a = some x → x.block ≠ B := by
  rintro hn x rfl
  rcases h with h | ⟨_, b, o, he, hb, _⟩
  · exact absurd h hn
  · simp at he; subst he; simp; omega
/-- The bytes of texts, one behind the other. -/
def joinB (ss : List ByteArray) : List UInt8 := ss.flatMap fun s => s.data.toList
theorem joinB_snoc (ss : List ByteArray) (s : ByteArray) : joinB (ss ++ [s]) = joinB ss ++ s.data.toList := by simp [joinB]
theorem one_text (w : World) (x : ByteArray) : Texts (w.alloc (.cells #[.string x] 9)) (some ⟨w.heap.size, 0, none⟩) [x] := by
  refine .inr ⟨by simp, w.heap.size, 0, rfl, by simp, fun i s hi => ?_⟩
  cases i with
  | zero => simp at hi; subst hi; go_simp
  | succ i => simp at hi
/-- A list of texts, as an argument. -/
def TArg (W : World) (v : Value) (ss : List ByteArray) : Prop := ∃ a m c, v = .slice a m c ∧ ss.length = m ∧ m ≤ c ∧ c ≤ maxLen ∧ Texts W a ss ∧ ∀ s ∈ ss, s.size ≤ maxLen
theorem texts_of {W : World} {v : Value} {ss : List ByteArray} (h : RL 1 RS W [v] ss) : TArg W v ss := by
  obtain ⟨a, m, c, h1, h2, h3, h4, h5⟩ := h
  refine ⟨a, m, c, by simpa using h1, h2, h3, h4, ?_⟩
  rcases h5 with rfl | ⟨hn, b, o, ha, hlt, h5⟩
  · exact ⟨.inl rfl, fun s hs => by cases hs⟩
  · refine ⟨.inr ⟨hn, b, o, ha, hlt, fun i s hi => ?_⟩, fun s hs => ?_⟩
    · obtain ⟨cs', k1, k2, k3, _⟩ := h5 i s hi
      rw [k3] at k2
      have := k2 0 (by decide)
      simpa using this
    · obtain ⟨i, hi, rfl⟩ := List.mem_iff_getElem.1 hs
      obtain ⟨cs', _, _, _, w1⟩ := h5 i _ (List.getElem?_eq_getElem hi)
      exact w1
set_option maxRecDepth 100000 in
theorem rd_texts {H : Type} {enc : TypeId × Value → H} {W : World} {base : Nat} {v : Value} {d : DataW H} {p : List MemPlace} (hv : Value.okWide Try.prog W .any base 31 v) (h : DataW.Trod enc Try.prog W 0 (fun _ => true) true 31 v d p) :
    ∃ ss, TArg W v ss := by
  obtain ⟨ss, hx⟩ := rd_list Try.underlying31 (op_list (sz := 1) Try.underlying31 (by kernel_rfl) (by decide) (op_str (enc := enc) (W := W) Try.underlying9)) hv h
  exact ⟨ss, texts_of hx⟩
end Go.Proofs.Ytmepanbfknmieaa
