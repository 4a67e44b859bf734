/- Contracts of Rows: which of two rows stands first. -/
import Derived.Test.YtapcnpocaffeoabCmp
namespace Go.Proofs.Ytapcnpocaffeoab
open Go.RowKit
/-- Which of two rows stands first. -/
def vrows : List Val → List Val → Int
  | [], [] => 0
  | [], _ :: _ => -1
  | _ :: _, [] => 1
  | x :: r, y :: t => if vcmp x y = 0 then vrows r t else vcmp x y
theorem vrows_step {a b : List Val} {k : Nat} {u v : Val} (hu : a[k]? = some u) (hv : b[k]? = some v) : vrows (a.drop k) (b.drop k) = if vcmp u v = 0 then vrows (a.drop (k + 1)) (b.drop (k + 1)) else vcmp u v := by
  obtain ⟨h1, h2⟩ := List.getElem?_eq_some_iff.1 hu
  obtain ⟨h3, h4⟩ := List.getElem?_eq_some_iff.1 hv
  rw [List.drop_eq_getElem_cons h1, List.drop_eq_getElem_cons h3, h2, h4]
  rfl
theorem vrows_end {a b : List Val} {k : Nat} (h : a.length ≤ k) (hk : k ≤ b.length) (hk' : k ≤ a.length) : vrows (a.drop k) (b.drop k) = if a.length < b.length then -1 else 0 := by
  rw [List.drop_eq_nil_of_le h]
  by_cases hl : a.length < b.length
  · rw [if_pos hl, List.drop_eq_getElem_cons (by omega)]; rfl
  · rw [if_neg hl, List.drop_eq_nil_of_le (by omega)]; rfl
theorem vrows_more {a b : List Val} {k : Nat} (h : b.length ≤ k) (hk : k < a.length) : vrows (a.drop k) (b.drop k) = 1 := by
  rw [List.drop_eq_nil_of_le h, List.drop_eq_getElem_cons hk]; rfl
theorem Vals.at3 {w w' : World} {a : Option Addr} {vs : List Val} {m k : Nat} (hv : Vals w a vs) (hl : vs.length = m) (hk : k < m) (hb : Below w.heap.size w w') :
    ∃ b o v, a = some ⟨b, o, none⟩ ∧ b < w.heap.size ∧ vs[k]? = some v ∧ w'.cell? ⟨b, o + k * 3, none⟩ = some (.int .i64 v.1) ∧ w'.cell? ⟨b, o + k * 3 + 1, none⟩ = some (.int .i64 v.2.1) ∧ w'.cell? ⟨b, o + k * 3 + 2, none⟩ = some (.string v.2.2) := by
  rcases hv with hv | ⟨hne, b, o, rfl, hlt, hz⟩
  · rw [hv] at hl; simp at hl; omega
  · obtain ⟨v, hvk⟩ : ∃ v, vs[k]? = some v := ⟨_, List.getElem?_eq_getElem (by omega)⟩
    obtain ⟨z0, z1, z2⟩ := hz k v hvk
    exact ⟨b, o, v, rfl, hlt, hvk, (hb.cell (p := ⟨b, o + k * 3, none⟩) hlt).trans z0, (hb.cell (p := ⟨b, o + k * 3 + 1, none⟩) hlt).trans z1, (hb.cell (p := ⟨b, o + k * 3 + 2, none⟩) hlt).trans z2⟩
end Go.Proofs.Ytapcnpocaffeoab
