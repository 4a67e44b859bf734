/- Readers: what a list of cells reads as, for arguments of any shape; opened out of the reading of the row, kept while what was there stays. No program is named here. -/
import Derived.Test.YtmepanbfknmieaaOpen
import Derived.ChangeArms
import Derived.DataReads
import Derived.ChangeSame
namespace Go.Proofs.Ytmepanbfknmieaa
open Go.ChangeShapes Go.WideShapes Go.ChangeAt Go.RowKit
/-- A reader: cells, in a world, as a datum. -/
def Rdr (α : Type) : Type := World → List Value → α → Prop
/-- What is read stays so while what was there stays. -/
def Kp {α : Type} (R : Rdr α) : Prop := ∀ W W' cs v, R W cs v → Below W.heap.size W W' → R W' cs v
def RI (k : IntKind) : Rdr Int := fun _ cs x => cs = [.int k x] ∧ (Lit.int k x).wf = true
def RB : Rdr Bool := fun _ cs b => cs = [.bool b]
def RS : Rdr ByteArray := fun _ cs s => cs = [.string s] ∧ s.size ≤ maxLen
/-- A slice, its elements sz cells each. -/
def RL {α : Type} (sz : Nat) (R : Rdr α) : Rdr (List α) := fun W cs vs =>
  ∃ a n c, cs = [.slice a n c] ∧ vs.length = n ∧ n ≤ c ∧ c ≤ maxLen ∧ (vs = [] ∨ vs ≠ [] ∧ ∃ b o, a = some ⟨b, o, none⟩ ∧ b < W.heap.size ∧
    ∀ (i : Nat) (v : α), vs[i]? = some v → ∃ cs', cs'.length = sz ∧ (∀ j, j < sz → W.cell? ⟨b, o + (i * sz + j), none⟩ = cs'[j]?) ∧ R W cs' v)
/-- Two parts, side by side. -/
def R2 {α β : Type} (n : Nat) (R : Rdr α) (S : Rdr β) : Rdr (α × β) := fun W cs v => R W (cs.take n) v.1 ∧ S W (cs.drop n) v.2
theorem kp_int (k : IntKind) : Kp (RI k) := fun _ _ _ _ h _ => h
theorem kp_bool : Kp RB := fun _ _ _ _ h _ => h
theorem kp_str : Kp RS := fun _ _ _ _ h _ => h
theorem kp_2 {α β : Type} {n : Nat} {R : Rdr α} {S : Rdr β} (h : Kp R) (k : Kp S) : Kp (R2 n R S) := fun W W' _ _ hv hb => ⟨h W W' _ _ hv.1 hb, k W W' _ _ hv.2 hb⟩
theorem kp_list {α : Type} {sz : Nat} {R : Rdr α} (h : Kp R) : Kp (RL sz R) := by
  rintro W W' cs vs ⟨a, n, c, h1, h2, h3, h4, h5⟩ hb
  refine ⟨a, n, c, h1, h2, h3, h4, ?_⟩
  rcases h5 with h5 | ⟨hn, b, o, ha, hlt, h5⟩
  · exact .inl h5
  · refine .inr ⟨hn, b, o, ha, Nat.lt_of_lt_of_le hlt hb.size, fun i v hi => ?_⟩
    obtain ⟨cs', k1, k2, k3⟩ := h5 i v hi
    exact ⟨cs', k1, fun j hj => by rw [hb.cell (p := ⟨b, o + (i * sz + j), none⟩) hlt]; exact k2 j hj, h W W' _ _ k3 hb⟩
section
variable {H : Type} {enc : TypeId × Value → H} {P : Program} {W : World}
/-- The type t is read by R. -/
def Op {α : Type} (enc : TypeId × Value → H) (P : Program) (W : World) (t : TypeId) (R : Rdr α) : Prop := ∀ fuel cs x, DataW.trod enc P W 0 (fun _ => true) true fuel t cs = some x → ∃ v, R W cs v
theorem op_int {t : TypeId} {k : IntKind} (ht : P.underlying t = some (.int k)) : Op enc P W t (RI k) := fun _ _ _ h => by
  obtain ⟨n, rfl, _, hw⟩ := DataW.trod_int ht h
  exact ⟨n, rfl, hw⟩
theorem op_bool {t : TypeId} (ht : P.underlying t = some .bool) : Op enc P W t RB := fun _ _ _ h => by
  obtain ⟨n, rfl, _⟩ := DataW.trod_bool ht h
  exact ⟨n, rfl⟩
theorem op_str {t : TypeId} (ht : P.underlying t = some .string) : Op enc P W t RS := fun _ _ _ h => by
  obtain ⟨n, rfl, _, hs⟩ := DataW.trod_string ht h
  exact ⟨n, rfl, hs⟩
theorem op_list {α : Type} {R : Rdr α} {t e : TypeId} {sz : Nat} (ht : P.underlying t = some (.slice e)) (hsz : P.cellsOf e = sz) (hp : 0 < sz) (ho : Op enc P W e R) : Op enc P W t (RL sz R) := by
  intro fuel cs x h
  rcases DataW.trod_slice ht h with ⟨hcs, _⟩ | ⟨a, len, cap, elems, rest, n, _, hcs, _, _, hl, hm, hlen, hel, _, _⟩
  · exact ⟨[], none, 0, 0, hcs, rfl, Nat.le_refl _, by simp [maxLen], .inl rfl⟩
  · subst hcs
    rcases Nat.eq_zero_or_pos len with h0 | h0
    · exact ⟨[], some a, len, cap, rfl, by simp [h0], hl, hm, .inl rfl⟩
    have key : ∀ i : Fin len, ∃ v : α, ∃ cs', cs'.length = sz ∧ (∀ j, j < sz → W.cell? (a.add (i * sz + j)) = cs'[j]?) ∧ R W cs' v := by
      intro i
      have h1 := hel i i.2
      rw [List.getElem?_eq_getElem (by omega)] at h1
      obtain ⟨cs', hc, ht'⟩ := Option.bind_eq_some_iff.1 h1
      rw [hsz] at hc
      obtain ⟨_, hcl, hat⟩ := World.cells?_some hc
      obtain ⟨v, hv⟩ := ho _ _ _ ht'
      refine ⟨v, cs', hcl, fun j hj => ?_, hv⟩
      rw [← hat j hj]
      congr 1
      obtain ⟨b, o, s⟩ := a
      unfold Addr.add
      split <;> split <;> split <;> simp_all <;> omega
    obtain ⟨f, hf⟩ := Classical.axiomOfChoice key
    have hfirst := hf ⟨0, h0⟩
    obtain ⟨cs0, hc0, hat0, _⟩ := hfirst
    have hcell := hat0 0 hp
    rw [List.getElem?_eq_getElem (by omega)] at hcell
    obtain ⟨b, o, s⟩ := a
    have hspot : s = none := by simpa [Addr.add] using World.cell?_spot hcell
    subst hspot
    refine ⟨List.ofFn f, _, _, _, rfl, by simp, hl, hm, .inr ⟨by intro e; have := congrArg List.length e; simp at this; omega, b, o, rfl, lt_of_cell (o := o) (by simpa [Addr.add] using hcell), ?_⟩⟩
    intro i v hi
    have hil : i < len := by
      have := (List.getElem?_eq_some_iff.1 hi).1
      simpa using this
    have hv : f ⟨i, hil⟩ = v := by
      rw [List.getElem?_eq_getElem (by simpa using hil)] at hi
      simpa using hi
    obtain ⟨cs', k1, k2, k3⟩ := hf ⟨i, hil⟩
    rw [hv] at k3
    exact ⟨cs', k1, fun j hj => by rw [← k2 j hj, WideShapes.add_plain], k3⟩
/-- A struct of two parts: the first n cells, and the others. -/
theorem op_2 {α β : Type} {R : Rdr α} {S : Rdr β} {t : TypeId} {f0 f1 : Field} {n : Nat} (ht : P.underlying t = some (.struct #[f0, f1])) (h0 : f0.offset = 0) (h0' : P.cellsOf f0.type = n) (h1 : f1.offset = n) (h1' : P.cellsOf t = n + P.cellsOf f1.type)
    (ho : Op enc P W f0.type R) (ho' : Op enc P W f1.type S) : Op enc P W t (R2 n R S) := by
  intro fuel cs x h
  obtain ⟨y0, y1, m, _, hl, k0, k1⟩ := trod_struct2 ht h
  rw [h0, h0', List.drop_zero] at k0
  rw [h1, List.take_of_length_le (by rw [List.length_drop]; omega)] at k1
  obtain ⟨v, hv⟩ := ho _ _ _ k0
  obtain ⟨u, hu⟩ := ho' _ _ _ k1
  exact ⟨(v, u), hv, hu⟩
/-- An argument: its value's cells are read. -/
theorem rd_of {α : Type} {R : Rdr α} {t : TypeId} {v : Value} {d : DataW H} {p : List MemPlace} (ho : Op enc P W t R) (h : DataW.Trod enc P W 0 (fun _ => true) true t v d p) : ∃ x, R W v.cells.toList x := by
  obtain ⟨fuel, hf⟩ := h
  exact ho _ _ _ hf
theorem rd_list {α : Type} {sz : Nat} {R : Rdr α} {base : Nat} {t e : TypeId} {v : Value} {d : DataW H} {p : List MemPlace} (ht : P.underlying t = some (.slice e)) (ho : Op enc P W t (RL sz R)) (hv : Value.okWide P W .any base t v) (h : DataW.Trod enc P W 0 (fun _ => true) true t v d p) : ∃ xs, RL sz R W [v] xs := by
  obtain ⟨a, len, cap, rfl⟩ := okWide_slice ht hv
  obtain ⟨x, hx⟩ := rd_of ho h
  exact ⟨x, by simpa [Value.cells] using hx⟩
end
/-- A slice of numbers, as the walks want it. -/
theorem ints_of_RL {k : IntKind} {W : World} {cs : List Value} {zs : List Int} (h : RL 1 (RI k) W cs zs) : ∃ a n c, cs = [.slice a n c] ∧ zs.length = n ∧ n ≤ c ∧ c ≤ maxLen ∧ Ints k W a zs ∧ ∀ z ∈ zs, (Lit.int k z).wf = true := by
  obtain ⟨a, n, c, h1, h2, h3, h4, h5⟩ := h
  refine ⟨a, n, c, h1, h2, h3, h4, ?_⟩
  rcases h5 with h5 | ⟨hn, b, o, ha, hlt, h5⟩
  · subst h5; exact ⟨.inl rfl, by simp⟩
  · constructor
    · refine .inr ⟨hn, b, o, ha, hlt, fun i hi => ?_⟩
      obtain ⟨cs', k1, k2, k3, _⟩ := h5 i zs[i] (List.getElem?_eq_getElem hi)
      have := k2 0 (by omega)
      rw [k3] at this
      rw [List.getD_eq_getElem?_getD, List.getElem?_eq_getElem hi]
      simpa using this
    · intro z hz
      obtain ⟨i, hi, rfl⟩ := List.mem_iff_getElem.1 hz
      obtain ⟨cs', _, _, _, hw⟩ := h5 i zs[i] (List.getElem?_eq_getElem hi)
      exact hw
end Go.Proofs.Ytmepanbfknmieaa
