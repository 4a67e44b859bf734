/- Contracts of the document's numbers: at, trim, sign, Of. -/
import Derived.Test.YtapcnpocaffeoabWorld
import Derived.Test.YtapcnpocaffeoabRows
import Derived.Test.YtapcnpocaffeoabDig
import Derived.Deep.RegionHeld3
import Derived.Deep.QuietTactic
import Derived.BigQuiet
namespace Go.Proofs.Ytapcnpocaffeoab
open Go.RowKit
/-- A slice value that reads as digits of the value V, at most L of them. -/
def DigAt (w : World) (v : Value) (V : Int) (L : Nat) : Prop := ∃ a n c ds, v = .slice a n c ∧ ds.length = n ∧ n ≤ c ∧ n ≤ L ∧ Ints .i64 w a ds ∧ Digs ds ∧ dval ds = V
/-- The parts of a Num that is the number V. -/
def NumP (w : World) (x : Bool) (a : Option Addr) (n c : Nat) (V : Int) : Prop := x = decide (V < 0) ∧ ∃ ds, ds.length = n ∧ n ≤ c ∧ Ints .i64 w a ds ∧ Canon ds ∧ dval ds = V.natAbs
/-- Whatever a leads to is no older than block B. -/
def Fresh (B : Nat) (a : Option Addr) : Prop := ∀ y, a = some y → B ≤ y.block
theorem Fresh.mono {B C : Nat} {a : Option Addr} (h : Fresh B a) (hC : C ≤ B) : Fresh C a := fun y hy => Nat.le_trans hC (h y hy)
def NumRet (Q : Option Addr → Prop) (V : Int) (w : World) (e : Ending) (w' : World) : Prop := ∃ x a n c, e = .returned (.agg #[.bool x, .slice a n c]) ∧ NumP w' x a n c V ∧ Below w.heap.size w w' ∧ Q a
theorem NumP.chg {S : Nat → Prop} {w w' : World} {x : Bool} {a : Option Addr} {n c : Nat} {V : Int} (h : NumP w x a n c V) (hc : Chg S w w') (hs : 0 < n → ∀ y, a = some y → ¬ S y.block) : NumP w' x a n c V := by
  obtain ⟨h1, ds, h2, h3, h4, h5⟩ := h
  exact ⟨h1, ds, h2, h3, h4.chg hc (fun hn => hs (by rw [← h2]; exact List.length_pos_iff.2 hn)), h5⟩
theorem NumP.drew {w : World} {x : Bool} {a : Option Addr} {n c : Nat} {V : Int} (h : NumP w x a n c V) : NumP w.drew x a n c V := h
theorem NumP.below {w w' : World} {x : Bool} {a : Option Addr} {n c : Nat} {V : Int} (h : NumP w x a n c V) (hb : Below w.heap.size w w') : NumP w' x a n c V := h.chg (S := fun _ => False) (Chg.ofBelow hb) (fun _ _ _ f => f)
/-- The variable of a result that is a Num. -/
theorem num_cell {w w1 : World} {t : TypeId} {B : Nat} (hB : w.heap.size = B) (h : Below (B + 1) (w.alloc (.cells #[.bool false, .slice none 0 0] t)) w1) :
    w1.heap[B]? = some (.cells #[.bool false, .slice none 0 0] t) ∧ w1.cell? ⟨B, 0, none⟩ = some (.bool false) ∧ w1.cell? ⟨B, 1, none⟩ = some (.slice none 0 0) ∧
    w1.frozen? ⟨B, 0, none⟩ = false ∧ w1.frozen? ⟨B, 1, none⟩ = false := by
  subst hB
  have e := h.block w.heap.size (by omega)
  refine ⟨by rw [e]; exact (MapKept.heap_alloc w _).1, ?_, ?_, ?_, ?_⟩
  · rw [World.cell?_of_block (w := w.alloc (.cells #[.bool false, .slice none 0 0] t)) e]; go_simp
  · rw [World.cell?_of_block (w := w.alloc (.cells #[.bool false, .slice none 0 0] t)) e]; go_simp
  · rw [World.frozen?_of_block (w := w.alloc (.cells #[.bool false, .slice none 0 0] t)) e]; go_simp
  · rw [World.frozen?_of_block (w := w.alloc (.cells #[.bool false, .slice none 0 0] t)) e]; go_simp
theorem ints_ne {w1 : World} {B : Nat} {t : TypeId} {x : Bool} {a' : Option Addr} {n c : Nat} {a : Option Addr} {ds : List Int} (hblk : w1.heap[B]? = some (.cells #[.bool x, .slice a' n c] t)) (hz : Ints .i64 w1 a ds) : ds ≠ [] → ∀ y, a = some y → ¬ y.block = B := by
  rintro hne y rfl e
  rcases hz with rfl | ⟨_, b, o, hy, hb, hz⟩
  · exact hne rfl
  · obtain rfl : y = ⟨b, o, none⟩ := by simpa using hy
    obtain rfl : b = B := e
    have hc := hz 0 (List.length_pos_iff.2 hne)
    simp only [World.cell?, hblk] at hc
    rcases o with _ | _ | o <;> simp at hc
theorem num_store {w w1 : World} {t : TypeId} {x : Bool} {a : Option Addr} {n c : Nat} {V : Int} {B : Nat} (hB : w.heap.size = B) (h : Below (B + 1) (w.alloc (.cells #[.bool false, .slice none 0 0] t)) w1) (hn : NumP w1 x a n c V) :
    NumP ((w1.setCell ⟨B, 0, none⟩ (.bool x)).setCell ⟨B, 1, none⟩ (.slice a n c)) x a n c V ∧ Below B w ((w1.setCell ⟨B, 0, none⟩ (.bool x)).setCell ⟨B, 1, none⟩ (.slice a n c)) := by
  obtain ⟨hblk, h0, h1, h2, h3⟩ := num_cell hB h
  subst hB
  refine ⟨hn.chg (S := (· = w.heap.size)) (((Chg.refl (· = w.heap.size) _).setCell (.inr rfl) _).setCell (.inr rfl) _) ?_, ?_⟩
  · intro hp y hy e
    obtain ⟨_, ds, hl, _, hz, _⟩ := hn
    rcases hz with rfl | ⟨_, b, o, rfl, hb, hz⟩
    · simp at hl; omega
    · obtain rfl : y = ⟨b, o, none⟩ := by simpa using hy.symm
      obtain rfl : b = w.heap.size := e
      have hc := hz 0 (by omega)
      simp only [World.cell?, hblk] at hc
      rcases o with _ | _ | o <;> simp at hc
  · exact ((((Below.refl _ w).alloc (Nat.le_refl _) _).trans (h.mono (by omega))).setCell (Nat.le_refl _) _).setCell (Nat.le_refl _) _
def atF (ds : List Int) (i : Nat) : Int := ds.getD i 0
/-- What trim gives: the digits without noughts above. -/
def TrimRet (w : World) (a : Option Addr) (c : Nat) (ds : List Int) (e : Ending) (w' : World) : Prop := ∃ n, e = .returned (.slice a n c) ∧ n ≤ ds.length ∧ Canon (ds.take n) ∧ dval (ds.take n) = dval ds ∧ w = w'
theorem take_dval0 {ds : List Int} {k : Nat} (hk : k < ds.length) (h0 : ds.getD k 0 = 0) : dval (ds.take (k + 1)) = dval (ds.take k) := by
  rw [take_getD ds k hk, dval_snoc, h0]; simp
theorem Ints.take {k : IntKind} {w : World} {a : Option Addr} {ds : List Int} (h : Ints k w a ds) (n : Nat) : Ints k w a (ds.take n) := by
  by_cases hn : ds.take n = []
  · exact .inl hn
  · rcases h with rfl | ⟨_, b, o, rfl, hb, hz⟩
    · simp at hn
    · refine .inr ⟨hn, b, o, rfl, hb, fun i hi => ?_⟩
      have hi' : i < n ∧ i < ds.length := by simp at hi; omega
      rw [show (ds.take n).getD i 0 = ds.getD i 0 from by simp [List.getD_eq_getElem?_getD, hi'.1]]
      exact hz i hi'.2
def sgnV (neg : Bool) (V : Int) : Int := if neg then -V else V
theorem num_of {w w' : World} {a : Option Addr} {n c : Nat} {ds : List Int} {neg : Bool} (hl : ds.length = n) (hc : n ≤ c) (hz : Ints .i64 w a ds) (hcn : Canon ds) (hb : Below w.heap.size w w') {x : Bool}
    (hx : x = (neg && decide (0 < n))) : NumP w' x a n c (sgnV neg (dval ds)) := by
  have h0 := dval_nonneg hcn.1
  have hi := canon_nil_iff hcn
  subst hx
  refine ⟨?_, ds, hl, hc, hz.below hb, hcn, by unfold sgnV; cases neg <;> simp <;> omega⟩
  unfold sgnV
  by_cases hn : n = 0
  · have h1 : ds = [] := List.eq_nil_of_length_eq_zero (by omega)
    have h2 := hi.1 h1
    cases neg <;> simp [hn, h2]
  · have h1 : ds ≠ [] := by rintro rfl; simp at hl; omega
    have h2 : dval ds ≠ 0 := fun e => h1 (hi.2 e)
    cases neg <;> simp <;> omega
theorem ints_of_owns {w : World} {base : Nat} {e : TypeId} {v : Value} {ds : List Int} (h : w.ownsRow base e 1 v ds.length (ds.map (Value.int .i64))) : ∃ a c, v = .slice a ds.length c ∧ ds.length ≤ c ∧ Ints .i64 w a ds ∧ Fresh base a := by
  have h2 := h.2
  rcases h2 with ⟨rfl, h0⟩ | ⟨g, cap, cur, rfl, hg, hgg, hle, hrest⟩
  · exact ⟨none, 0, by rw [h0], by omega, .inl (List.eq_nil_of_length_eq_zero h0), fun y hy => by cases hy⟩
  · refine ⟨_, _, rfl, hle, ?_, fun y hy => by cases hy; exact hg⟩
    by_cases hn : ds = []
    · exact .inl hn
    · have hc := h.cells (g := g) rfl
      have hlt := (h.lt g rfl).2
      refine .inr ⟨hn, g, 0, rfl, hlt, fun i hi => ?_⟩
      have := hc i (.int .i64 (ds.getD i 0)) (by simp [List.getD_eq_getElem?_getD, hi])
      rwa [WideShapes.add_plain] at this
theorem info_int : (Try.prog.info? 3).map (fun i => (i.zero, i.size, i.bytes)) = some (some (.int .i64 0), 1, 8) := by kernel_rfl
theorem pw19 : pw 19 = 10000000000000000000 := by decide
theorem of_len {l : List Int} {u : Int} (hu : 1 ≤ u) (h : dval l + pw l.length * u ≤ 9223372036854775808) (hd : Digs l) : l.length ≤ 18 := by
  refine Nat.le_of_not_lt fun hlt => ?_
  have h1 := pw_mono (a := 19) (b := l.length) hlt
  have h2 := dval_nonneg hd
  have h3 : pw l.length * 1 ≤ pw l.length * u := Int.mul_le_mul_of_nonneg_left hu (by have := pw_pos l.length; omega)
  rw [pw19] at h1
  omega
end Go.Proofs.Ytapcnpocaffeoab
