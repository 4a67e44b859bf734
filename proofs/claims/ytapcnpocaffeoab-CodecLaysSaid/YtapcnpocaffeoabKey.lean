/- Contracts of keys: appendNumber, appendText, appendKey, Key. -/
import Derived.Test.YtapcnpocaffeoabVals
import Derived.Deep.AppendLies
import Derived.Lib.ConvBytes
import Derived.Laws.Bits64
import Derived.Lib.Strings
import Derived.Lib.AtoiErrMem
namespace Go.Proofs.Ytapcnpocaffeoab
open Go.RowKit
def u8s (l : List UInt8) : List Value := l.map fun b => Value.int .u8 (b.toNat : Int)
theorem u8s_app (a b : List UInt8) : u8s (a ++ b) = u8s a ++ u8s b := by simp [u8s]
theorem u8s_len (a : List UInt8) : (u8s a).length = a.length := by simp [u8s]
theorem info_u8 : (Try.prog.info? 5).map (fun i => (i.zero, i.size, i.bytes)) = some (some (.int .u8 0), 1, 1) := by kernel_rfl
/-- A slice of bytes of its own, grown out of v. -/
def Grown8 (w : World) (base : Nat) (v : Value) (l : List UInt8) (v' : Value) (w' : World) : Prop :=
  w'.ownsRow base 5 1 v' l.length (u8s l) ∧ Chg (fun k => v.ownBlock = some k) w w' ∧ ∀ g, v'.ownBlock = some g → w.heap.size ≤ g ∨ v.ownBlock = some g
theorem Grown8.refl {w : World} {base : Nat} {v : Value} {l : List UInt8} (h : w.ownsRow base 5 1 v l.length (u8s l)) : Grown8 w base v l v w := ⟨h, Chg.refl _ _, fun _ h => .inr h⟩
theorem Grown8.trans {w w1 w2 : World} {base : Nat} {v v1 v2 : Value} {l l' : List UInt8} (h : Grown8 w base v l v1 w1) (k : Grown8 w1 base v1 l' v2 w2) : Grown8 w base v l' v2 w2 := by
  obtain ⟨_, h2, h3⟩ := h
  obtain ⟨k1, k2, k3⟩ := k
  have hz := h2.size
  refine ⟨k1, ⟨k2.os.trans h2.os, k2.tape.trans h2.tape, k2.output.trans h2.output, Nat.le_trans h2.size k2.size, fun j hj hs => ?_⟩, fun g hg => ?_⟩
  · rw [k2.block j (by omega) (fun e => by rcases h3 j e with x | x <;> first | omega | exact hs x)]
    exact h2.block j hj hs
  · rcases k3 g hg with x | x
    · exact .inl (by omega)
    · exact h3 g x
/-- One append: of some bytes, out of a block of the walk's own. -/
theorem grown_append {w w1 : World} {base : Nat} {v : Value} {l news : List UInt8} {o : Obj} {g c : Nat} (h1 : w1.ownsRow base 5 1 (.slice (some ⟨g, 0, none⟩) (l.length + news.length) c) (l.length + news.length) (u8s l ++ u8s news)) (h2 : (w.alloc o).grownBy w1 v.ownBlock) (h3 : v.ownBlock = some g ∨ g = w.heap.size + 1) :
    Grown8 w base v (l ++ news) (.slice (some ⟨g, 0, none⟩) (l.length + news.length) c) w1 := by
  refine ⟨by rw [u8s_app, List.length_append]; exact h1, ?_, ?_⟩
  · exact ((Chg.refl _ w).alloc o).grown h2 (fun k hk => .inr hk)
  · intro g' hg'
    have : g' = g := by simpa [Value.ownBlock] using hg'.symm
    subst this
    rcases h3 with h3 | h3
    · exact .inr h3
    · exact .inl (by omega)
def be8 (u : Nat) : List UInt8 := [UInt8.ofNat (u / 72057594037927936), UInt8.ofNat (u / 281474976710656), UInt8.ofNat (u / 1099511627776), UInt8.ofNat (u / 4294967296), UInt8.ofNat (u / 16777216), UInt8.ofNat (u / 65536), UInt8.ofNat (u / 256), UInt8.ofNat u]
def Ret8 (w : World) (base : Nat) (v : Value) (l : List UInt8) (e : Ending) (w' : World) : Prop := ∃ v', e = .returned v' ∧ Grown8 w base v l v' w'
theorem xor_top (y : Nat) (h : y < 2 ^ 63) : 2 ^ 63 ^^^ y = 2 ^ 63 + y := by
  have e : 2 ^ 63 + y = 2 ^ 63 ||| y := by
    have := Nat.two_pow_add_eq_or_of_lt h 1
    simpa using this
  rw [e]
  apply Nat.eq_of_testBit_eq
  intro i
  rw [Nat.testBit_xor, Nat.testBit_or, Nat.testBit_two_pow]
  by_cases hi : 63 = i
  · subst hi
    rw [Nat.testBit_lt_two_pow h]
    simp
  · simp [hi]
theorem top_bit (n : Int) (h0 : -9223372036854775808 ≤ n) (h1 : n ≤ 9223372036854775807) : bits .xor .u64 (IntKind.u64.wrap n) 9223372036854775808 = n + 9223372036854775808 := by
  have hw : IntKind.u64.wrap n = ((n % 18446744073709551616).toNat : Int) := by rw [IntKind.wrap_u64]; omega
  rw [hw, show (9223372036854775808 : Int) = ((9223372036854775808 : Nat) : Int) from rfl, bits_xor_u64_nat _ _ (by omega) (by decide)]
  by_cases hn : 0 ≤ n
  · have e : (n % 18446744073709551616).toNat = n.toNat := by omega
    have := xor_top n.toNat (by omega)
    rw [e, Nat.xor_comm]
    rw [show (9223372036854775808 : Nat) = 2 ^ 63 from rfl, this]
    omega
  · have e : (n % 18446744073709551616).toNat = 2 ^ 63 + (n + 9223372036854775808).toNat := by omega
    have := xor_top (n + 9223372036854775808).toNat (by omega)
    rw [e, ← this, show (9223372036854775808 : Nat) = 2 ^ 63 from rfl, Nat.xor_comm (2 ^ 63), Nat.xor_assoc, Nat.xor_self, Nat.xor_zero]
    omega
theorem Grown8.below {w w1 w2 : World} {base : Nat} {v v1 : Value} {l : List UInt8} (h : Grown8 w base v l v1 w1) (hb : Below w1.heap.size w1 w2) : Grown8 w base v l v1 w2 :=
  ⟨h.1.kept (row := none) ⟨hb.os, hb.tape, hb.output, hb.size, fun k hk _ => hb.block k hk⟩ (by cases v1.ownBlock <;> simp), h.2.1.thenB hb, h.2.2⟩
/-- A text's bytes, behind each 00 an ff. -/
def esc (l : List UInt8) : List UInt8 := l.flatMap fun c => if c = 0 then [0, 255] else [c]
theorem esc_snoc (l : List UInt8) (c : UInt8) : esc (l ++ [c]) = esc l ++ if c = 0 then [0, 255] else [c] := by simp [esc]
theorem esc_len (l : List UInt8) : (esc l).length ≤ 2 * l.length := by
  induction l with
  | nil => simp [esc]
  | cons c r ih =>
    have : esc (c :: r) = (if c = 0 then [0, 255] else [c]) ++ esc r := by simp [esc]
    rw [this, List.length_append, List.length_cons]
    split <;> simp <;> omega
end Go.Proofs.Ytapcnpocaffeoab
