/- A map of files: the laws on maps, at elements that are read raw; files as a list, by their names. -/
import Derived.Test.YtmepanbfknmieaaWorld
import Derived.Test.YtmepanbfknmieaaRows
import Derived.Maps.OwnSet
import Derived.Maps.OwnOps
import Derived.Maps.RangeWalk
namespace Go.Proofs.Ytmepanbfknmieaa
open Go.RowKit Go.Maps Go.ChangeMaps Go.WideMaps
/-- A file, as it lies: its bytes' slice, how many are kept. -/
abbrev FRaw := Option Addr × Nat × Nat × Int
def fileV (f : FRaw) : Value := .agg #[.slice f.1 f.2.1 f.2.2.1, .int .i64 f.2.2.2]
/-- How a file reads: as itself. So every law on maps hands over the file as it lies. -/
def fileR (v : Value) : Option (DataW FRaw × List MemPlace) := match v with
  | .agg ⟨[.slice a n c, .int .i64 k]⟩ => some (.held (a, n, c, k), [])
  | _ => none
theorem fileR_mk (f : FRaw) : fileR (fileV f) = some (.held f, []) := rfl
theorem fileR_inv {v : Value} {y : DataW FRaw × List MemPlace} (h : fileR v = some y) : ∃ f, v = fileV f ∧ y = (.held f, []) := by
  unfold fileR at h
  split at h
  · injection h with h
    exact ⟨_, rfl, h.symm⟩
  · cases h
/-- Files, by their names (their bytes), rising. -/
abbrev FEnt := List UInt8 × FRaw
def entD (p : FEnt) : Lit × DataW FRaw := (.string p.1, .held p.2)
def toD (fs : List FEnt) : DataW FRaw := .map (fs.map entD)
def fget {β : Type} (fs : List (List UInt8 × β)) (k : List UInt8) : Option β := (fs.find? fun p => p.1 == k).map (·.2)
def fins {β : Type} (x : List UInt8 × β) : List (List UInt8 × β) → List (List UInt8 × β)
  | [] => [x]
  | y :: r => if (Lit.string x.1).before (.string y.1) = true then x :: y :: r else y :: fins x r
def fdel {β : Type} (fs : List (List UInt8 × β)) (k : List UInt8) : List (List UInt8 × β) := fs.filter fun p => !(p.1 == k)
def fput {β : Type} (fs : List (List UInt8 × β)) (k : List UInt8) (f : β) : List (List UInt8 × β) := fins (k, f) (fdel fs k)
theorem same_str (a b : List UInt8) : (Lit.string a).sameKey (.string b) = (a == b) := rfl
theorem toD_at (fs : List FEnt) (k : List UInt8) (z : FRaw) : (toD fs).atKey (.string k) (.held z) = .held ((fget fs k).getD z) := by
  unfold toD DataW.atKey fget
  simp only
  induction fs with
  | nil => rfl
  | cons p r ih =>
    simp only [List.map_cons, List.find?_cons, entD, same_str]
    cases h : p.1 == k with
    | true => rfl
    | false => exact ih
theorem toD_has (fs : List FEnt) (k : List UInt8) : Maps.has (toD fs) (.string k) = (fget fs k).isSome := by
  unfold toD fget
  rw [Maps.has_eq]
  induction fs with
  | nil => rfl
  | cons p r ih =>
    simp only [List.map_cons, List.any_cons, List.find?_cons, entD, same_str]
    cases h : p.1 == k with
    | true => rfl
    | false => rw [Bool.false_or]; exact ih
theorem toD_size (fs : List FEnt) : Maps.size (toD fs) = fs.length := by unfold toD; rw [Maps.size_eq, List.length_map]
theorem toD_filter (fs : List FEnt) (k : List UInt8) : (fs.map entD).filter (fun p => !p.1.sameKey (.string k)) = (fdel fs k).map entD := by
  unfold fdel
  rw [List.filter_map]
  rfl
theorem toD_ins (x : FEnt) (fs : List FEnt) : DataW.insert (entD x) (fs.map entD) = (fins x fs).map entD := by
  induction fs with
  | nil => rfl
  | cons y r ih =>
    simp only [List.map_cons, DataW.insert, fins]
    by_cases h : (Lit.string x.1).before (.string y.1) = true
    · rw [if_pos h, if_pos (show (entD x).1.before (entD y).1 = true from h)]; rfl
    · rw [if_neg h, if_neg (show ¬ (entD x).1.before (entD y).1 = true from h), ih]; rfl
theorem toD_put (fs : List FEnt) (k : List UInt8) (f : FRaw) : (toD fs).put (.string k) (.held f) = toD (fput fs k f) := by
  unfold toD DataW.put fput
  simp only
  rw [toD_filter, ← toD_ins]; rfl
theorem toD_del (fs : List FEnt) (k : List UInt8) : (toD fs).del (.string k) = toD (fdel fs k) := by
  unfold toD DataW.del
  simp only
  rw [toD_filter]
theorem str_law : Keyed Try.prog 9 := string_keyed Try.underlying9
theorem key_str (s : ByteArray) (h : s.size ≤ maxLen) : keyOf Try.prog 9 (.string s) = some (.string s.data.toList) := keyOf_string_mk Try.underlying9 h
theorem zero_file (w : World) : (zeroValue 72).run Try.prog w = .ok (fileV (none, 0, 0, 0)) w := by kernel_rfl
theorem own_tight {w : World} {b n : Nat} {D : DataW FRaw} (h : w.ownsMap Try.prog 9 fileR b n D) : w.ownsMap Try.prog 9 fileR b (Maps.size D) D := by
  obtain ⟨es, clock, hb, F, _, rfl⟩ := h
  refine ⟨es, clock, hb, F, ?_, rfl⟩
  rw [Maps.size_eq, length_sorted]
  simp
/-- The files of a disk: what its map, if there is one, holds. -/
def FilesAt (w : World) (mb : Option Nat) (fs : List FEnt) : Prop := (mb = none ∧ fs = []) ∨ ∃ b, mb = some b ∧ w.ownsMap Try.prog 9 fileR b fs.length (toD fs)
end Go.Proofs.Ytmepanbfknmieaa
