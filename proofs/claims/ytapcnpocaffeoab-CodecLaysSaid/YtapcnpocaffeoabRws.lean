/- Rows of rows that a call makes. -/
import Derived.Test.YtapcnpocaffeoabPg6
namespace Go.Proofs.Ytapcnpocaffeoab
open Go.RowKit
def rowsLS (cols : Int) : Nat → List UInt8 → Bool → List (List Val) × List UInt8 × Bool
  | 0, l, bad => ([], l, bad)
  | n + 1, l, bad => if bad then ([], l, bad) else ((rowS cols l bad).1 :: (rowsLS cols n (rowS cols l bad).2.1 (rowS cols l bad).2.2).1, (rowsLS cols n (rowS cols l bad).2.1 (rowS cols l bad).2.2).2)
theorem rowsLS_bad (cols : Int) (n : Nat) (l : List UInt8) : rowsLS cols n l true = ([], l, true) := by cases n <;> rfl
theorem rowsLS_good (cols : Int) (n : Nat) (l : List UInt8) : rowsLS cols (n + 1) l false = ((rowS cols l false).1 :: (rowsLS cols n (rowS cols l false).2.1 (rowS cols l false).2.2).1, (rowsLS cols n (rowS cols l false).2.1 (rowS cols l false).2.2).2) := rfl
/-- Rows that are taken. -/
def rowsS (most cols : Int) (l : List UInt8) (bad : Bool) : List (List Val) × List UInt8 × Bool :=
  let p := sizeS most l bad
  let q := rowsLS cols p.1 p.2.1 p.2.2
  if q.2.2 then ([], q.2) else q
theorem valsS_le : ∀ (n : Nat) (l : List UInt8) (bd : Bool), (valsS n l bd).2.1.length ≤ l.length
  | 0, l, bd => by simp [valsS]
  | n + 1, l, true => by rw [valsS_bad]; exact Nat.le_refl _
  | n + 1, l, false => by
    rw [valsS_good]
    exact Nat.le_trans (valsS_le n _ _) (valS_len l false).1
theorem rowS_lt (cols : Int) (l : List UInt8) : (rowS cols l false).2.1.length ≤ l.length ∧ ((rowS cols l false).2.2 = false → (rowS cols l false).2.1.length < l.length) := by
  have hz : (sizeS cols l false).2.1.length ≤ l.length ∧ ((sizeS cols l false).2.2 = false → (sizeS cols l false).2.1.length < l.length) := by
    unfold sizeS
    split
    · exact ⟨by simp, fun h => by cases h⟩
    · exact numberS_len _ l false
  have hv := valsS_le (sizeS cols l false).1 (sizeS cols l false).2.1 (sizeS cols l false).2.2
  unfold rowS
  simp only
  split
  · rename_i hb
    exact ⟨Nat.le_trans hv hz.1, fun h => by simp only at h; rw [hb] at h; cases h⟩
  · refine ⟨Nat.le_trans hv hz.1, fun h => Nat.lt_of_le_of_lt hv (hz.2 ?_)⟩
    cases hb : (sizeS cols l false).2.2 with
    | false => rfl
    | true => rw [hb, valsS_bad] at h; cases h
theorem rowsLS_len (cols : Int) : ∀ (n : Nat) (l : List UInt8) (bd : Bool), (rowsLS cols n l bd).2.2 = false → (rowsLS cols n l bd).1.length + (rowsLS cols n l bd).2.1.length ≤ l.length ∧ ∀ r ∈ (rowsLS cols n l bd).1, r.length ≤ l.length
  | 0, l, bd, _ => by simp [rowsLS]
  | n + 1, l, true, h => by rw [rowsLS_bad] at h; cases h
  | n + 1, l, false, h => by
    rw [rowsLS_good] at h ⊢
    simp only at h ⊢
    have hb : (rowS cols l false).2.2 = false := by
      cases hb : (rowS cols l false).2.2 with
      | false => rfl
      | true => rw [hb, rowsLS_bad] at h; cases h
    have h1 := (rowS_lt cols l).2 hb
    obtain ⟨h2, h3⟩ := rowsLS_len cols n _ _ h
    simp only [List.length_cons]
    refine ⟨by omega, fun r hr => ?_⟩
    rcases List.mem_cons.1 hr with rfl | hr
    · exact rowS_len cols l false
    · have := h3 r hr; omega
theorem rowsS_len (most cols : Int) (l : List UInt8) (bd : Bool) : (rowsS most cols l bd).1.length ≤ l.length ∧ ∀ r ∈ (rowsS most cols l bd).1, r.length ≤ l.length := by
  unfold rowsS
  simp only
  have h0 : (sizeS most l bd).2.1.length ≤ l.length := by
    unfold sizeS
    split
    · simp
    · exact (numberS_len _ l bd).1
  split
  · exact ⟨Nat.zero_le _, fun r hr => (List.not_mem_nil hr).elim⟩
  · rename_i h
    have h' : (rowsLS cols (sizeS most l bd).1 (sizeS most l bd).2.1 (sizeS most l bd).2.2).2.2 = false := by simpa using h
    obtain ⟨h1, h2⟩ := rowsLS_len cols _ _ _ h'
    exact ⟨by omega, fun r hr => Nat.le_trans (h2 r hr) h0⟩
theorem own_chg {w w' : World} {B b k : Nat} {t : TypeId} {v : Value} {n : Nat} {xs : List Value} (h : w.ownsRow B t k v n xs) (hc : Chg (· = b) w w') (hb : b < B) : w'.ownsRow B t k v n xs :=
  h.kept (row := some b) ⟨hc.os, hc.tape, hc.output, hc.size, fun k hk hne => hc.block k hk (fun e => hne (by rw [e]))⟩ (by
    by_cases e : v.ownBlock = some b
    · have := (h.lt b e).1; omega
    · exact .inr e)
theorem info1_row : (Try.prog.info? 25).map (fun i => (i.zero, i.size, i.bytes)) = some (some (.slice none 0 0), 1, 24) := by kernel_rfl
/-- What the slots of a list of rows hold: each a row that lies apart from the list. -/
def Inner (B : Nat) (w : World) (a : Option Addr) (rs : List (List Val)) (xs : List Value) : Prop :=
  ∀ (i : Nat) (vs : List Val), rs[i]? = some vs → ∃ (a' : Option Addr) (c' : Nat), xs[i]? = some (Value.slice a' vs.length c') ∧ Vals w a' vs ∧ (vs ≠ [] → ∀ y, a' = some y → B ≤ y.block ∧ ∀ z, a = some z → z.block ≠ y.block)
theorem Inner.chg {S : Nat → Prop} {B : Nat} {w w' : World} {a : Option Addr} {rs : List (List Val)} {xs : List Value} (h : Inner B w a rs xs) (hc : Chg S w w') (hS : ∀ k, B ≤ k → ¬ S k) : Inner B w' a rs xs := by
  intro i vs hi
  obtain ⟨a', c', h1, h2, h3⟩ := h i vs hi
  exact ⟨a', c', h1, h2.chg hc (fun hn y hy => hS _ (h3 hn y hy).1), h3⟩
theorem vals_lt {w : World} {a : Option Addr} {vs : List Val} (h : Vals w a vs) (hn : vs ≠ []) (y : Addr) (hy : a = some y) : y.block < w.heap.size := by
  rcases h with h | ⟨_, b, o, he, hb, _⟩
  · exact absurd h hn
  · rw [hy] at he; injection he with he; rw [he]; exact hb
theorem Inner.push {B : Nat} {w w5 : World} {o : Obj} {a : Option Addr} {c g n : Nat} {rs : List (List Val)} {xs : List Value} {a' : Option Addr} {c' : Nat} {vs : List Val} (h : Inner B w a rs xs) (hl : xs.length = rs.length)
    (hv : Vals w a' vs) (hf : vs ≠ [] → ∀ y, a' = some y → B ≤ y.block ∧ ∀ z, a = some z → z.block ≠ y.block)
    (hg : (w.alloc o).grownBy w5 (Value.slice a n c).ownBlock) (hgl : (Value.slice a n c).ownBlock = some g ∨ g = w.heap.size + 1) : Inner B w5 (some ⟨g, 0, none⟩) (rs ++ [vs]) (xs ++ [Value.slice a' vs.length c']) := by
  have hown : ∀ k, (Value.slice a n c).ownBlock = some k → ∃ z, a = some z ∧ z.block = k := by
    intro k hk
    cases a with
    | none => cases hk
    | some z => exact ⟨z, rfl, by injection hk⟩
  have keep : ∀ (b : Option Addr) (us : List Val), Vals w b us → (us ≠ [] → ∀ y, b = some y → B ≤ y.block ∧ ∀ z, a = some z → z.block ≠ y.block) → Vals w5 b us ∧ (us ≠ [] → ∀ y, b = some y → B ≤ y.block ∧ ∀ z, (some (⟨g, 0, none⟩ : Addr)) = some z → z.block ≠ y.block) := by
    intro b us hu hfu
    have hA : Vals (w.alloc o) b us := hu.below ((Below.refl _ _).alloc (Nat.le_refl _) _)
    constructor
    · rcases hA with h0 | ⟨hn, k, off, rfl, hk, hz⟩
      · exact .inl h0
      · have hne : some k ≠ (Value.slice a n c).ownBlock := fun e => by
          obtain ⟨z, hz1, hz2⟩ := hown k e.symm
          exact (hfu hn _ rfl).2 z hz1 hz2
        refine .inr ⟨hn, k, off, rfl, Nat.lt_of_lt_of_le hk hg.size, fun i v hi => ?_⟩
        have hb := hg.block k hk hne
        obtain ⟨z0, z1, z2⟩ := hz i v hi
        exact ⟨(World.cell?_of_block hb).trans z0, (World.cell?_of_block hb).trans z1, (World.cell?_of_block hb).trans z2⟩
    · intro hn y hy
      refine ⟨(hfu hn y hy).1, fun z hz => ?_⟩
      injection hz with hz
      subst hz
      have hlt := vals_lt hu hn y hy
      show g ≠ y.block
      rcases hgl with hgl | hgl
      · obtain ⟨z, hz1, hz2⟩ := hown g hgl
        rw [← hz2]
        exact (hfu hn y hy).2 z hz1
      · omega
  intro i us hi
  by_cases hlt : i < rs.length
  · rw [List.getElem?_append_left hlt] at hi
    obtain ⟨b, c2, h1, h2, h3⟩ := h i us hi
    exact ⟨b, c2, by rw [List.getElem?_append_left (by omega)]; exact h1, keep b us h2 h3⟩
  · have hi' : i = rs.length := by
      have := (List.getElem?_eq_some_iff.1 hi).1
      simp at this; omega
    subst hi'
    rw [List.getElem?_append_right (Nat.le_refl _)] at hi
    simp at hi
    subst hi
    exact ⟨a', c', by rw [List.getElem?_append_right (by omega)]; simp [hl], keep a' vs hv hf⟩
theorem Inner.rowsAt {B : Nat} {w : World} {a : Option Addr} {c : Nat} {t : TypeId} {rs : List (List Val)} {xs : List Value} (h : Inner B w a rs xs) (ho : w.ownsRow B t 1 (.slice a rs.length c) rs.length xs) : RowsAt (fun k => B ≤ k) w a rs := by
  rcases ho.2 with ⟨hv, h0⟩ | ⟨g, cap, cur, hv, hB, hh, _⟩
  · exact .inl (List.eq_nil_of_length_eq_zero h0)
  · by_cases hr : rs = []
    · exact .inl hr
    injection hv with hv _ _
    refine .inr ⟨hr, g, 0, hv, ?_, hB, fun i vs hi => ?_⟩
    · exact (Array.getElem?_eq_some_iff.1 hh).1
    · obtain ⟨a', c', h1, h2, h3⟩ := h i vs hi
      have hc := ho.cells (g := g) (by rw [hv]; rfl) i _ h1
      have e : (⟨g, 0, none⟩ : Addr).add i = ⟨g, 0 + i, none⟩ := by unfold Addr.add; split <;> simp_all
      rw [e] at hc
      exact ⟨a', c', hc, h2, fun hn y hy => (h3 hn y hy).1⟩
end Go.Proofs.Ytapcnpocaffeoab
