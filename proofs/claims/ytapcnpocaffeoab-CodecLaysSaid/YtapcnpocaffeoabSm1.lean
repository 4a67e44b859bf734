/- A reader and the document's own one, side by side. -/
import Derived.Test.YtapcnpocaffeoabRows4
import Derived.Test.YtapcnpocaffeoabAwake4
namespace Go.Proofs.Ytapcnpocaffeoab
open Go.RowKit
/-- A reader by its pointer: none is bad, and has nothing left. -/
def RSt (x : Option Addr) (w : World) (l : List UInt8) (bad : Bool) : Prop := (x = none ∧ l = [] ∧ bad = true) ∨ ∃ b, x = some ⟨b, 0, none⟩ ∧ RAt w b l bad
/-- The block that a reader's calls may change. -/
def RBlk (x : Option Addr) (k : Nat) : Prop := x = some ⟨k, 0, none⟩
theorem RAt.apart {w : World} {b p : Nat} {l : List UInt8} {s : ByteArray} {bad pb : Bool} (h : RAt w b l bad) (hp : PAt w p s pb) : b ≠ p := by
  rintro rfl
  obtain ⟨_, _, _, a, c, h3, _⟩ := h
  have := h3.symm.trans hp.2
  simp at this
theorem BytesIn.far {w w' : World} {a : Option Addr} {l : List UInt8} {b p : Nat} {s : ByteArray} {pb : Bool} (h : BytesIn w a l b) (hp : PAt w p s pb) (hc : Chg (· = p) w w') : BytesIn w' a l b := by
  rcases h with h | ⟨k, o, rfl, hb, ⟨hk, cs, cl, ht⟩, hj⟩
  · exact .inl h
  · have hkp : k ≠ p := by
      rintro rfl
      have := ht.symm.trans hp.2
      simp at this
    exact .inr ⟨k, o, rfl, hb, ⟨Nat.lt_of_lt_of_le hk hc.size, cs, cl, (hc.block k hk hkp).trans ht⟩, fun j u hu => (hc.cell (p := ⟨k, o + j, none⟩) hk hkp).trans (hj j u hu)⟩
theorem RAt.far {w w' : World} {b p : Nat} {l : List UInt8} {s : ByteArray} {bad pb : Bool} (h : RAt w b l bad) (hp : PAt w p s pb) (hc : Chg (· = p) w w') : RAt w' b l bad := by
  have hne := h.apart hp
  obtain ⟨h0, h1, h2, a, c, h3, h4, h5⟩ := h
  exact ⟨Nat.lt_of_lt_of_le h0 hc.size, h1, h2, a, c, (hc.block b h0 hne).trans h3, h4, h5.far hp hc⟩
theorem RSt.far {x : Option Addr} {w w' : World} {p : Nat} {l : List UInt8} {s : ByteArray} {bad pb : Bool} (h : RSt x w l bad) (hp : PAt w p s pb) (hc : Chg (· = p) w w') : RSt x w' l bad := by
  rcases h with h | ⟨b, rfl, h⟩
  · exact .inl h
  · exact .inr ⟨b, rfl, h.far hp hc⟩
theorem RSt.below {x : Option Addr} {w w' : World} {l : List UInt8} {bad : Bool} (h : RSt x w l bad) (hb : Below w.heap.size w w') : RSt x w' l bad := by
  rcases h with h | ⟨b, rfl, h⟩
  · exact .inl h
  · exact .inr ⟨b, rfl, h.below hb⟩
theorem PAt.far {x : Option Addr} {w w' : World} {p : Nat} {l : List UInt8} {s : ByteArray} {bad pb : Bool} (hp : PAt w p s pb) (h : RSt x w l bad) (hc : Chg (RBlk x) w w') : PAt w' p s pb := by
  refine ⟨Nat.lt_of_lt_of_le hp.1 hc.size, (hc.block p hp.1 ?_).trans hp.2⟩
  rcases h with ⟨rfl, _⟩ | ⟨b, rfl, h⟩
  · intro e; cases e
  · intro e
    injection e with e
    injection e with e
    exact h.apart hp e
theorem RSt.nil {x : Option Addr} {w : World} {l : List UInt8} {bad : Bool} (h : RSt x w l bad) (hb : bad = true) : l = [] := by
  rcases h with ⟨_, h, _⟩ | ⟨b, rfl, h⟩
  · exact h
  · exact h.2.1 hb
theorem RSt.len {x : Option Addr} {w : World} {l : List UInt8} {bad : Bool} (h : RSt x w l bad) : l.length ≤ 1073741824 := by
  rcases h with ⟨_, h, _⟩ | ⟨b, rfl, h⟩
  · rw [h]; exact Nat.zero_le _
  · exact h.2.2.1
theorem st_good (x : Option Addr) (l : List UInt8) (bad : Bool) (w : World) (h : RSt x w l bad) : Calls Try.prog 34 #[.pointer x] w fun e w' => e = .returned (.bool (!bad)) ∧ w' = w := by
  rcases h with ⟨rfl, rfl, rfl⟩ | ⟨b, rfl, h⟩
  · exact (good_nil w).mono fun e w' h => ⟨h.1, h.2.symm⟩
  · exact (good_any b l bad w h).mono fun e w' h => ⟨h.1, h.2.symm⟩
theorem st_len (x : Option Addr) (l : List UInt8) (bad : Bool) (w : World) (h : RSt x w l bad) : Calls Try.prog 53 #[.pointer x] w fun e w' => e = .returned (.int .i64 (l.length : Int)) ∧ w' = w := by
  rcases h with ⟨rfl, rfl, rfl⟩ | ⟨b, rfl, h⟩
  · exact (rlen_nil w).mono fun e w' h => ⟨h.1, h.2.symm⟩
  · exact (rlen_any b l bad w h).mono fun e w' h => ⟨h.1, h.2.symm⟩
theorem st_string (x : Option Addr) (l : List UInt8) (bad : Bool) (w : World) (h : RSt x w l bad) : Calls Try.prog 33 #[.pointer x] w fun e w' => e = .returned (.string ⟨l.toArray⟩) ∧ w' = w := by
  rcases h with ⟨rfl, rfl, rfl⟩ | ⟨b, rfl, h⟩
  · exact (rstring_nil w).mono fun e w' h => ⟨h.1, h.2.symm⟩
  · exact (rstring_any b l bad w h).mono fun e w' h => ⟨h.1, h.2.symm⟩
theorem st_end (x : Option Addr) (l : List UInt8) (bad : Bool) (w : World) (h : RSt x w l bad) : Calls Try.prog 37 #[.pointer x] w fun e w' => e = .returned (.bool (!bad && l.isEmpty)) ∧ w' = w := by
  rcases h with ⟨rfl, rfl, rfl⟩ | ⟨b, rfl, h⟩
  · exact (rend_nil w).mono fun e w' h => ⟨h.1, h.2.symm⟩
  · exact (rend_any b l bad w h).mono fun e w' h => ⟨h.1, h.2.symm⟩
theorem st_fail (x : Option Addr) (l : List UInt8) (bad : Bool) (w : World) (h : RSt x w l bad) : Calls Try.prog 52 #[.pointer x] w fun e w' => e = .returned (.tuple #[]) ∧ RSt x w' [] true ∧ Chg (RBlk x) w w' := by
  rcases h with ⟨rfl, rfl, rfl⟩ | ⟨b, rfl, h⟩
  · exact (fail_nil w).mono fun e w' h => ⟨h.1, .inl ⟨rfl, rfl, rfl⟩, h.2 ▸ Chg.refl _ _⟩
  · exact (fail_any b l bad w h).mono fun e w' h => ⟨h.1, .inr ⟨b, rfl, h.2.1⟩, h.2.2.mono fun k _ hk => by rw [hk]; rfl⟩
/-- The document's reader at block p: while it is good, what is to come. -/
def PSt (w : World) (p : Nat) (l : List UInt8) (bd : Bool) : Prop := ∃ s, PAt w p s bd ∧ (bd = false → s.data.toList = l)
theorem PSt.below {w w' : World} {p : Nat} {l : List UInt8} {bd : Bool} (h : PSt w p l bd) (hb : Below w.heap.size w w') : PSt w' p l bd := h.imp fun _ h => ⟨h.1.below hb, h.2⟩
theorem PSt.lt {w : World} {p : Nat} {l : List UInt8} {bd : Bool} (h : PSt w p l bd) : p < w.heap.size := by obtain ⟨s, h, _⟩ := h; exact h.1
theorem RSt.farP {x : Option Addr} {w w' : World} {p : Nat} {l l2 : List UInt8} {bad pb : Bool} (h : RSt x w l bad) (hp : PSt w p l2 pb) (hc : Chg (· = p) w w') : RSt x w' l bad := by obtain ⟨s, hp, _⟩ := hp; exact h.far hp hc
theorem PSt.far {x : Option Addr} {w w' : World} {p : Nat} {l l2 : List UInt8} {bad pb : Bool} (hp : PSt w p l2 pb) (h : RSt x w l bad) (hc : Chg (RBlk x) w w') : PSt w' p l2 pb := hp.imp fun _ k => ⟨k.1.far h hc, k.2⟩
/-- Both, as they must stand: alike, while they are good. -/
def St (x : Option Addr) (p : Nat) (w : World) (l : List UInt8) (bd : Bool) : Prop := RSt x w l bd ∧ PSt w p l bd
theorem St.below {x : Option Addr} {p : Nat} {w w' : World} {l : List UInt8} {bd : Bool} (h : St x p w l bd) (hb : Below w.heap.size w w') : St x p w' l bd := ⟨h.1.below hb, h.2.below hb⟩
/-- A reader's answer that is plain, and the document's. -/
def OpR (x : Option Addr) (l : List UInt8) (bd : Bool) (f : Nat) (args : Array Value) (v : Value) (l' : List UInt8) (b' : Bool) : Prop :=
  ∀ W, RSt x W l bd → Calls Try.prog f args W fun e w' => e = .returned v ∧ RSt x w' l' b' ∧ Chg (RBlk x) W w'
def OpP (p : Nat) (l : List UInt8) (bd : Bool) (f : Nat) (args : Array Value) (v : Value) (l' : List UInt8) (b' : Bool) : Prop :=
  ∀ W, PSt W p l bd → Calls Try.prog f args W fun e w' => e = .returned v ∧ PSt w' p l' b' ∧ Chg (· = p) W w'
theorem RSt.lt {x : Option Addr} {w : World} {l : List UInt8} {bad : Bool} (h : RSt x w l bad) (k : Nat) (hk : RBlk x k) : k < w.heap.size := by
  rcases h with ⟨rfl, _⟩ | ⟨b, rfl, h⟩
  · cases hk
  · injection hk with e
    injection e with e
    rw [← e]; exact h.1
/-- What both may change. -/
def SBlk (x : Option Addr) (p : Nat) (k : Nat) : Prop := RBlk x k ∨ k = p
theorem Chg.thenR {x : Option Addr} {p : Nat} {w w1 w2 : World} (h : Chg (SBlk x p) w w1) (hc : Chg (RBlk x) w1 w2) : Chg (SBlk x p) w w2 := h.trans (hc.mono fun _ _ h => .inl h)
theorem Chg.thenP {x : Option Addr} {p : Nat} {w w1 w2 : World} (h : Chg (SBlk x p) w w1) (hc : Chg (· = p) w1 w2) : Chg (SBlk x p) w w2 := h.trans (hc.mono fun _ _ h => .inr h)
/-- A cell that neither may change. -/
theorem cell_R {x : Option Addr} {B o : Nat} {w w1 w2 : World} {l : List UInt8} {bad : Bool} {v : Value} (h : RSt x w l bad) (hB : w.heap.size ≤ B) (hlt : B < w1.heap.size) (hc : Chg (RBlk x) w1 w2) (hv : w1.cell? ⟨B, o, none⟩ = some v) : w2.cell? ⟨B, o, none⟩ = some v :=
  (hc.cell (p := ⟨B, o, none⟩) hlt (fun hk => by have := h.lt B hk; omega)).trans hv
theorem cell_P {p B o : Nat} {w w1 w2 : World} {l : List UInt8} {bad : Bool} {v : Value} (h : PSt w p l bad) (hB : w.heap.size ≤ B) (hlt : B < w1.heap.size) (hc : Chg (· = p) w1 w2) (hv : w1.cell? ⟨B, o, none⟩ = some v) : w2.cell? ⟨B, o, none⟩ = some v :=
  (hc.cell (p := ⟨B, o, none⟩) hlt (fun hk => by have := h.lt; have e : B = p := hk; omega)).trans hv
/-- A reader's answer that is a row, of new memory. -/
def FreshVals (B : Nat) (vs : List Val) (e : Ending) (w' : World) : Prop := ∃ a c, e = .returned (.slice a vs.length c) ∧ Vals w' a vs ∧ (vs ≠ [] → ∀ y, a = some y → B ≤ y.block)
def FreshRows (B : Nat) (rs : List (List Val)) (e : Ending) (w' : World) : Prop := ∃ a c, e = .returned (.slice a rs.length c) ∧ RowsAt (fun k => B ≤ k) w' a rs
def OpRV (x : Option Addr) (l : List UInt8) (bd : Bool) (f : Nat) (args : Array Value) (R : Nat → Ending → World → Prop) (l' : List UInt8) (b' : Bool) : Prop :=
  ∀ W, RSt x W l bd → Calls Try.prog f args W fun e w' => R W.heap.size e w' ∧ RSt x w' l' b' ∧ Chg (RBlk x) W w'
def OpPV (p : Nat) (l : List UInt8) (bd : Bool) (f : Nat) (args : Array Value) (R : Nat → Ending → World → Prop) (l' : List UInt8) (b' : Bool) : Prop :=
  ∀ W, PSt W p l bd → Calls Try.prog f args W fun e w' => R W.heap.size e w' ∧ PSt w' p l' b' ∧ Chg (· = p) W w'
theorem Vals.afterP {p B : Nat} {w w1 w2 : World} {a : Option Addr} {vs : List Val} {l : List UInt8} {bad : Bool} (hv : Vals w1 a vs) (hf : vs ≠ [] → ∀ y, a = some y → B ≤ y.block) (h : PSt w p l bad) (hB : w.heap.size ≤ B) (hc : Chg (· = p) w1 w2) : Vals w2 a vs :=
  hv.chg hc (fun hn y hy => by have := hf hn y hy; have := h.lt; show ¬ y.block = p; omega)
theorem Vals.afterR {x : Option Addr} {B : Nat} {w w1 w2 : World} {a : Option Addr} {vs : List Val} {l : List UInt8} {bad : Bool} (hv : Vals w1 a vs) (hf : vs ≠ [] → ∀ y, a = some y → B ≤ y.block) (h : RSt x w l bad) (hB : w.heap.size ≤ B) (hc : Chg (RBlk x) w1 w2) : Vals w2 a vs :=
  hv.chg hc (fun hn y hy hk => by have := hf hn y hy; have := h.lt _ hk; omega)
theorem RowsAt.afterP {p B : Nat} {w w1 w2 : World} {a : Option Addr} {rs : List (List Val)} {l : List UInt8} {bad : Bool} (hv : RowsAt (fun k => B ≤ k) w1 a rs) (h : PSt w p l bad) (hB : w.heap.size ≤ B) (hc : Chg (· = p) w1 w2) : RowsAt (fun k => B ≤ k) w2 a rs :=
  hv.chg hc (fun k hk e => by have := h.lt; have e' : k = p := e; omega)
theorem RowsAt.afterR {x : Option Addr} {B : Nat} {w w1 w2 : World} {a : Option Addr} {rs : List (List Val)} {l : List UInt8} {bad : Bool} (hv : RowsAt (fun k => B ≤ k) w1 a rs) (h : RSt x w l bad) (hB : w.heap.size ≤ B) (hc : Chg (RBlk x) w1 w2) : RowsAt (fun k => B ≤ k) w2 a rs :=
  hv.chg hc (fun k hk e => by have := h.lt _ e; omega)
theorem vsame_self (vs : List Val) : vsame vs vs = true := by simp [vsame]
theorem rsame_self (vs : List (List Val)) : rsame vs vs = true := by simp [rsame]
end Go.Proofs.Ytapcnpocaffeoab
