/- Rows of values that a call makes: small words. -/
import Derived.Test.YtapnkbamilkpoaaVals
import Derived.Test.YtapnkbamilkpoaaB8
namespace Go.Proofs.Ytapnkbamilkpoaa
open Go.RowKit
def rowcs (vs : List Val) : List Value := vs.flatMap fun v => [.int .i64 v.1, .int .i64 v.2.1, .string v.2.2]
theorem rowcs_len (vs : List Val) : (rowcs vs).length = vs.length * 3 := by
  induction vs with
  | nil => rfl
  | cons v t ih =>
    have : rowcs (v :: t) = [.int .i64 v.1, .int .i64 v.2.1, .string v.2.2] ++ rowcs t := rfl
    rw [this, List.length_append, ih, List.length_cons]; simp; omega
theorem rowcs_snoc (vs : List Val) (v : Val) : rowcs (vs ++ [v]) = rowcs vs ++ [.int .i64 v.1, .int .i64 v.2.1, .string v.2.2] := by simp [rowcs]
theorem rowcs_at : ∀ (vs : List Val) (i : Nat) (v : Val), vs[i]? = some v → (rowcs vs)[i * 3]? = some (.int .i64 v.1) ∧ (rowcs vs)[i * 3 + 1]? = some (.int .i64 v.2.1) ∧ (rowcs vs)[i * 3 + 2]? = some (.string v.2.2)
  | [], i, v, h => by simp at h
  | u :: t, 0, v, h => by simp at h; subst h; exact ⟨rfl, rfl, rfl⟩
  | u :: t, i + 1, v, h => by
    obtain ⟨h0, h1, h2⟩ := rowcs_at t i v (by simpa using h)
    have e : rowcs (u :: t) = [.int .i64 u.1, .int .i64 u.2.1, .string u.2.2] ++ rowcs t := rfl
    rw [e]
    refine ⟨?_, ?_, ?_⟩ <;> rw [List.getElem?_append_right (by simp; omega)]
    · rw [← h0]; congr 1; simp; omega
    · rw [← h1]; congr 1; simp; omega
    · rw [← h2]; congr 1; simp; omega
theorem own3_vals {w : World} {B : Nat} {t : TypeId} {a : Option Addr} {n c : Nat} {vs : List Val} (h : w.ownsRow B t 3 (.slice a n c) n (rowcs vs)) : Vals w a vs := by
  by_cases hn : vs = []
  · exact .inl hn
  · rcases h.2 with ⟨hv, h0⟩ | ⟨g, cap, cur, hv, _, hg, _⟩
    · have := h.1; rw [rowcs_len, h0] at this
      exact absurd (List.length_eq_zero_iff.1 (by omega)) hn
    · injection hv with ha hn' hc
      subst ha
      refine .inr ⟨hn, g, 0, rfl, (Array.getElem?_eq_some_iff.1 hg).1, fun i v hi => ?_⟩
      obtain ⟨h0, h1, h2⟩ := rowcs_at vs i v hi
      have hc := fun j u => h.cells (g := g) rfl j u
      have hadd : ∀ j, (⟨g, 0, none⟩ : Addr).add j = ⟨g, j, none⟩ := fun j => by unfold Addr.add; split <;> simp_all
      refine ⟨?_, ?_, ?_⟩
      · have := hc _ _ h0; rw [hadd] at this; simpa using this
      · have := hc _ _ h1; rw [hadd] at this; simpa using this
      · have := hc _ _ h2; rw [hadd] at this; simpa using this
theorem info3_val : (Try.prog.info? 55).map (fun i => (i.zero, i.size, i.bytes)) = some (some (.agg #[.int .i64 0, .int .i64 0, .string ⟨#[]⟩]), 3, 32) := by kernel_rfl
theorem own3_below {w w' : World} {B : Nat} {t : TypeId} {v : Value} {n : Nat} {xs : List Value} (h : w.ownsRow B t 3 v n xs) (hb : Below w.heap.size w w') : w'.ownsRow B t 3 v n xs :=
  h.kept (row := none) ⟨hb.os, hb.tape, hb.output, hb.size, fun k hk _ => hb.block k hk⟩ (by cases hv : v.ownBlock <;> simp)
theorem three_new (w : World) (t : TypeId) (x y z : Value) : ∀ j u, [x, y, z][j]? = some u → (w.alloc (.cells #[x, y, z] t)).cell? ((⟨w.heap.size, 0, none⟩ : Addr).add j) = some u := by
  intro j u hu
  have hadd : (⟨w.heap.size, 0, none⟩ : Addr).add j = ⟨w.heap.size, j, none⟩ := by unfold Addr.add; split <;> simp_all
  rw [hadd]
  have hb : (w.alloc (.cells #[x, y, z] t)).heap[w.heap.size]? = some (.cells #[x, y, z] t (0, 0)) := Array.getElem?_push_size
  rw [Lib.cell_of_heap hb j]
  simpa using hu
theorem own3_chg {w w' : World} {B b : Nat} {t : TypeId} {v : Value} {n : Nat} {xs : List Value} (h : w.ownsRow B t 3 v n xs) (hc : Chg (· = b) w w') (hb : b < B) : w'.ownsRow B t 3 v n xs :=
  h.kept (row := some b) ⟨hc.os, hc.tape, hc.output, hc.size, fun k hk hne => hc.block k hk (fun e => hne (by rw [e]))⟩ (by
    by_cases e : v.ownBlock = some b
    · have := (h.lt b e).1; omega
    · exact .inr e)
theorem own3_row {w : World} {B : Nat} {t : TypeId} {v : Value} {n : Nat} {xs : List Value} (h : w.ownsRow B t 3 v n xs) (k : Nat) (hk : v.ownBlock = some k) : ∃ cs, w.heap[k]? = some (.cells cs t (0, 0)) := by
  rcases h.2 with ⟨hv, _⟩ | ⟨g, cap, cur, hv, _, hg, _⟩
  · rw [hv] at hk; cases hk
  · rw [hv] at hk; injection hk with hk; subst hk; exact ⟨cur, hg⟩
theorem own3_fresh {w : World} {B : Nat} {t : TypeId} {k : Nat} {a : Option Addr} {n c : Nat} {xs : List Value} (h : w.ownsRow B t k (.slice a n c) n xs) : ∀ y, a = some y → B ≤ y.block := by
  rintro y rfl
  rcases h.2 with ⟨hv, _⟩ | ⟨g, cap, cur, hv, hB, _⟩
  · cases hv
  · injection hv with hv; injection hv with hv; rw [hv]; exact hB
def RowRet (B : Nat) (vs : List Val) (e : Ending) (w' : World) : Prop := ∃ a c, e = .returned (.slice a vs.length c) ∧ Vals w' a vs ∧ (vs ≠ [] → ∀ y, a = some y → B ≤ y.block)
def lenOf : Value → Nat
  | .slice _ n _ => n
  | _ => 0
theorem Chg.thenB' {S : Nat → Prop} {a w w' : World} (h : Chg S a w) (_hs : a.heap.size ≤ w.heap.size) (hb : Below w.heap.size w w') : Chg S a w' := h.thenB hb
theorem Vals.at3 {w w' : World} {a : Option Addr} {vs : List Val} {m k : Nat} (hv : Vals w a vs) (hl : vs.length = m) (hk : k < m) (hb : Below w.heap.size w w') :
    ∃ b o v, a = some ⟨b, o, none⟩ ∧ b < w.heap.size ∧ vs[k]? = some v ∧ w'.cell? ⟨b, o + k * 3, none⟩ = some (.int .i64 v.1) ∧ w'.cell? ⟨b, o + k * 3 + 1, none⟩ = some (.int .i64 v.2.1) ∧ w'.cell? ⟨b, o + k * 3 + 2, none⟩ = some (.string v.2.2) := by
  rcases hv with hv | ⟨hne, b, o, rfl, hlt, hz⟩
  · rw [hv] at hl; simp at hl; omega
  · obtain ⟨v, hvk⟩ : ∃ v, vs[k]? = some v := ⟨_, List.getElem?_eq_getElem (by omega)⟩
    obtain ⟨z0, z1, z2⟩ := hz k v hvk
    exact ⟨b, o, v, rfl, hlt, hvk, (hb.cell (p := ⟨b, o + k * 3, none⟩) hlt).trans z0, (hb.cell (p := ⟨b, o + k * 3 + 1, none⟩) hlt).trans z1, (hb.cell (p := ⟨b, o + k * 3 + 2, none⟩) hlt).trans z2⟩
end Go.Proofs.Ytapnkbamilkpoaa
