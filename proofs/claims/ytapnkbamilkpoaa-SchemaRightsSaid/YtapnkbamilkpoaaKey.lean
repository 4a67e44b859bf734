/- Contracts of keys: appendNumber, appendText, appendKey, Key. -/
import Derived.Test.YtapnkbamilkpoaaVals
import Derived.Deep.AppendLies
import Derived.Lib.ConvBytes
import Derived.Laws.Bits64
import Derived.Lib.Strings
import Derived.Lib.AtoiErrMem
namespace Go.Proofs.Ytapnkbamilkpoaa
open Go.RowKit
def u8s (l : List UInt8) : List Value := l.map fun b => Value.int .u8 (b.toNat : Int)
theorem u8s_app (a b : List UInt8) : u8s (a ++ b) = u8s a ++ u8s b := by simp [u8s]
theorem u8s_len (a : List UInt8) : (u8s a).length = a.length := by simp [u8s]
theorem info_u8 : (Try.prog.info? 5).map (fun i => (i.zero, i.size, i.bytes)) = some (some (.int .u8 0), 1, 1) := by kernel_rfl
/-- A slice of bytes of its own, grown out of v. -/
def Grown8 (w : World) (base : Nat) (v : Value) (l : List UInt8) (v' : Value) (w' : World) : Prop :=
  w'.ownsRow base 5 1 v' l.length (u8s l) ∧ Chg (fun k => v.ownBlock = some k) w w' ∧ ∀ g, v'.ownBlock = some g → w.heap.size ≤ g ∨ v.ownBlock = some g
theorem Grown8.refl {w : World} {base : Nat} {v : Value} {l : List UInt8} (h : w.ownsRow base 5 1 v l.length (u8s l)) : Grown8 w base v l v w := ⟨h, Chg.refl _ _, fun _ h => .inr h⟩
theorem Grown8.trans {w w1 w2 : World} {base : Nat} {v v1 v2 : Value} {l l' : List UInt8} (h : Grown8 w base v l v1 w1) (k : Grown8 w1 base v1 l' v2 w2) : Grown8 w base v l' v2 w2 := by
  obtain ⟨_, h2, h3⟩ := h
  obtain ⟨k1, k2, k3⟩ := k
  have hz := h2.size
  refine ⟨k1, ⟨k2.os.trans h2.os, k2.tape.trans h2.tape, k2.output.trans h2.output, Nat.le_trans h2.size k2.size, fun j hj hs => ?_⟩, fun g hg => ?_⟩
  · rw [k2.block j (by omega) (fun e => by rcases h3 j e with x | x <;> first | omega | exact hs x)]
    exact h2.block j hj hs
  · rcases k3 g hg with x | x
    · exact .inl (by omega)
    · exact h3 g x
/-- One append: of some bytes, out of a block of the walk's own. -/
theorem grown_append {w w1 : World} {base : Nat} {v : Value} {l news : List UInt8} {o : Obj} {g c : Nat} (h1 : w1.ownsRow base 5 1 (.slice (some ⟨g, 0, none⟩) (l.length + news.length) c) (l.length + news.length) (u8s l ++ u8s news)) (h2 : (w.alloc o).grownBy w1 v.ownBlock) (h3 : v.ownBlock = some g ∨ g = w.heap.size + 1) :
    Grown8 w base v (l ++ news) (.slice (some ⟨g, 0, none⟩) (l.length + news.length) c) w1 := by
  refine ⟨by rw [u8s_app, List.length_append]; exact h1, ?_, ?_⟩
  · exact ((Chg.refl _ w).alloc o).grown h2 (fun k hk => .inr hk)
  · intro g' hg'
    have : g' = g := by simpa [Value.ownBlock] using hg'.symm
    subst this
    rcases h3 with h3 | h3
    · exact .inr h3
    · exact .inl (by omega)
def be8 (u : Nat) : List UInt8 := [UInt8.ofNat (u / 72057594037927936), UInt8.ofNat (u / 281474976710656), UInt8.ofNat (u / 1099511627776), UInt8.ofNat (u / 4294967296), UInt8.ofNat (u / 16777216), UInt8.ofNat (u / 65536), UInt8.ofNat (u / 256), UInt8.ofNat u]
def Ret8 (w : World) (base : Nat) (v : Value) (l : List UInt8) (e : Ending) (w' : World) : Prop := ∃ v', e = .returned v' ∧ Grown8 w base v l v' w'
theorem xor_top (y : Nat) (h : y < 2 ^ 63) : 2 ^ 63 ^^^ y = 2 ^ 63 + y := by
  have e : 2 ^ 63 + y = 2 ^ 63 ||| y := by
    have := Nat.two_pow_add_eq_or_of_lt h 1
    simpa using this
  rw [e]
  apply Nat.eq_of_testBit_eq
  intro i
  rw [Nat.testBit_xor, Nat.testBit_or, Nat.testBit_two_pow]
  by_cases hi : 63 = i
  · subst hi
    rw [Nat.testBit_lt_two_pow h]
    simp
  · simp [hi]
theorem top_bit (n : Int) (h0 : -9223372036854775808 ≤ n) (h1 : n ≤ 9223372036854775807) : bits .xor .u64 (IntKind.u64.wrap n) 9223372036854775808 = n + 9223372036854775808 := by
  have hw : IntKind.u64.wrap n = ((n % 18446744073709551616).toNat : Int) := by rw [IntKind.wrap_u64]; omega
  rw [hw, show (9223372036854775808 : Int) = ((9223372036854775808 : Nat) : Int) from rfl, bits_xor_u64_nat _ _ (by omega) (by decide)]
  by_cases hn : 0 ≤ n
  · have e : (n % 18446744073709551616).toNat = n.toNat := by omega
    have := xor_top n.toNat (by omega)
    rw [e, Nat.xor_comm]
    rw [show (9223372036854775808 : Nat) = 2 ^ 63 from rfl, this]
    omega
  · have e : (n % 18446744073709551616).toNat = 2 ^ 63 + (n + 9223372036854775808).toNat := by omega
    have := xor_top (n + 9223372036854775808).toNat (by omega)
    rw [e, ← this, show (9223372036854775808 : Nat) = 2 ^ 63 from rfl, Nat.xor_comm (2 ^ 63), Nat.xor_assoc, Nat.xor_self, Nat.xor_zero]
    omega
set_option maxRecDepth 100000 in
set_option maxHeartbeats 1000000 in
theorem number_any (n : Int) (h0 : -9223372036854775808 ≤ n) (h1 : n ≤ 9223372036854775807) (v : Value) (l : List UInt8) (base : Nat) (w : World) (hl : l.length ≤ 1048576) (hb : base ≤ w.heap.size) (hown : w.ownsRow base 5 1 v l.length (u8s l)) :
    Calls Try.prog 90 #[v, .int .i64 n] w (Ret8 w base v (l ++ be8 (n + 9223372036854775808).toNat)) := by
  obtain ⟨i0, hi, hz0, hz1, hz2⟩ := info_parts info_u8
  have htop := top_bit n h0 h1
  obtain ⟨U, hU⟩ : ∃ U : Nat, (U : Int) = n + 9223372036854775808 := ⟨(n + 9223372036854775808).toNat, by omega⟩
  rw [← hU] at htop ⊢
  have hU1 : U < 18446744073709551616 := by omega
  clear hU
  go_enter Try.func90, Try.ntmps90
  go_wp2
  go_loopw [0, 6] (fun x sh wr => ∃ k : Nat, k ≤ 8 ∧ sh = .int .i64 (56 - 8 * (k : Int)) ∧ Grown8 w base v (l ++ (be8 U).take k) x wr) (fun _ sh _ => (intOf sh + 8).toNat)
  case atStart => exact ⟨0, by omega, rfl, by simpa using Grown8.refl hown⟩
  case round =>
    obtain ⟨k, hk, rfl, hg⟩ := hrel
    have hsz := hg.2.1.size
    by_cases hlt : k < 8
    · have hbl : (l ++ (be8 U).take k).length = l.length + k := by simp [be8]; omega
      obtain ⟨L, hL⟩ : ∃ L, L = l ++ (be8 U).take k := ⟨_, rfl⟩
      rw [← hL] at hg hbl
      have hLl : L.length ≤ 1048584 := by omega
      have HL := Lib.hid hL
      clear hL hbl hown
      have hown1 := hg.1
      obtain rfl | rfl | rfl | rfl | rfl | rfl | rfl | rfl : k = 0 ∨ k = 1 ∨ k = 2 ∨ k = 3 ∨ k = 4 ∨ k = 5 ∨ k = 6 ∨ k = 7 := by omega
      · obtain ⟨B, hB⟩ : ∃ B : UInt8, B = UInt8.ofNat (U / 72057594037927936) := ⟨_, rfl⟩
        have hB0 : (B.toNat : Int) = (U : Int) / 72057594037927936 % 256 := by rw [hB]; simp ; try omega
        have hB1 : (U : Int) / 72057594037927936 = (B.toNat : Int) := by omega
        have HB := Lib.hid hB
        clear hB hB0
        go_wp2_with (at_builtin; refine wpList_append_lies _ rfl (.tmp 14) (.tmp 19) 91 rfl base 5 i0 (.int .u8 0) 1 1 Try.underlying91 hi hz0 hz1 hz2 rfl (by decide) _ L.length (u8s L) rfl (hown1.alloc _) ⟨wr.heap.size, 0, none⟩ 1 1 [.int .u8 (B.toNat : Int)] rfl rfl (cell_one_new _ _ _) ?c1 (by decide) ?c2 ?c3 ?c4 (wr.heap.size + 1) ?c5 ?_)
        case c1 => simp [Value.oneCell']
        case c2 => unfold maxLen; omega
        case c3 => omega
        case c4 => simp; omega
        case c5 => simp
        intro g cap w1 hn1 hgr hat hlt1
        have hG := grown_append (news := [B]) hn1 hgr hat
        have e : L ++ [B] = l ++ (be8 U).take 1 := by rw [HL.out, HB.out]; simp [be8]
        rw [e] at hG
        have hF := Grown8.trans hg hG
        clear e hG hB1
        go_wp2
        go_roundw
        case rel => exact ⟨1, by omega, by simp, hF⟩
        case measure => simp [intOf]
      · obtain ⟨B, hB⟩ : ∃ B : UInt8, B = UInt8.ofNat (U / 281474976710656) := ⟨_, rfl⟩
        have hB0 : (B.toNat : Int) = (U : Int) / 281474976710656 % 256 := by rw [hB]; simp ; try omega
        have hB1 : ((U : Int) / 281474976710656) % 256 = (B.toNat : Int) := by omega
        have hB2 : IntKind.u8.wrap ((U : Int) / 281474976710656) = (B.toNat : Int) := by rw [IntKind.wrap_u8]; omega
        have HB := Lib.hid hB
        clear hB hB0
        go_wp2_with (at_builtin; refine wpList_append_lies _ rfl (.tmp 14) (.tmp 19) 91 rfl base 5 i0 (.int .u8 0) 1 1 Try.underlying91 hi hz0 hz1 hz2 rfl (by decide) _ L.length (u8s L) rfl (hown1.alloc _) ⟨wr.heap.size, 0, none⟩ 1 1 [.int .u8 (B.toNat : Int)] rfl rfl (cell_one_new _ _ _) ?c1 (by decide) ?c2 ?c3 ?c4 (wr.heap.size + 1) ?c5 ?_)
        case c1 => simp [Value.oneCell']
        case c2 => unfold maxLen; omega
        case c3 => omega
        case c4 => simp; omega
        case c5 => simp
        intro g cap w1 hn1 hgr hat hlt1
        have hG := grown_append (news := [B]) hn1 hgr hat
        have e : L ++ [B] = l ++ (be8 U).take 2 := by rw [HL.out, HB.out]; simp [be8]
        rw [e] at hG
        have hF := Grown8.trans hg hG
        clear e hG hB1
        go_wp2
        go_roundw
        case rel => exact ⟨2, by omega, by simp, hF⟩
        case measure => simp [intOf]
      · obtain ⟨B, hB⟩ : ∃ B : UInt8, B = UInt8.ofNat (U / 1099511627776) := ⟨_, rfl⟩
        have hB0 : (B.toNat : Int) = (U : Int) / 1099511627776 % 256 := by rw [hB]; simp ; try omega
        have hB1 : ((U : Int) / 1099511627776) % 256 = (B.toNat : Int) := by omega
        have hB2 : IntKind.u8.wrap ((U : Int) / 1099511627776) = (B.toNat : Int) := by rw [IntKind.wrap_u8]; omega
        have HB := Lib.hid hB
        clear hB hB0
        go_wp2_with (at_builtin; refine wpList_append_lies _ rfl (.tmp 14) (.tmp 19) 91 rfl base 5 i0 (.int .u8 0) 1 1 Try.underlying91 hi hz0 hz1 hz2 rfl (by decide) _ L.length (u8s L) rfl (hown1.alloc _) ⟨wr.heap.size, 0, none⟩ 1 1 [.int .u8 (B.toNat : Int)] rfl rfl (cell_one_new _ _ _) ?c1 (by decide) ?c2 ?c3 ?c4 (wr.heap.size + 1) ?c5 ?_)
        case c1 => simp [Value.oneCell']
        case c2 => unfold maxLen; omega
        case c3 => omega
        case c4 => simp; omega
        case c5 => simp
        intro g cap w1 hn1 hgr hat hlt1
        have hG := grown_append (news := [B]) hn1 hgr hat
        have e : L ++ [B] = l ++ (be8 U).take 3 := by rw [HL.out, HB.out]; simp [be8]
        rw [e] at hG
        have hF := Grown8.trans hg hG
        clear e hG hB1
        go_wp2
        go_roundw
        case rel => exact ⟨3, by omega, by simp, hF⟩
        case measure => simp [intOf]
      · obtain ⟨B, hB⟩ : ∃ B : UInt8, B = UInt8.ofNat (U / 4294967296) := ⟨_, rfl⟩
        have hB0 : (B.toNat : Int) = (U : Int) / 4294967296 % 256 := by rw [hB]; simp ; try omega
        have hB1 : ((U : Int) / 4294967296) % 256 = (B.toNat : Int) := by omega
        have hB2 : IntKind.u8.wrap ((U : Int) / 4294967296) = (B.toNat : Int) := by rw [IntKind.wrap_u8]; omega
        have HB := Lib.hid hB
        clear hB hB0
        go_wp2_with (at_builtin; refine wpList_append_lies _ rfl (.tmp 14) (.tmp 19) 91 rfl base 5 i0 (.int .u8 0) 1 1 Try.underlying91 hi hz0 hz1 hz2 rfl (by decide) _ L.length (u8s L) rfl (hown1.alloc _) ⟨wr.heap.size, 0, none⟩ 1 1 [.int .u8 (B.toNat : Int)] rfl rfl (cell_one_new _ _ _) ?c1 (by decide) ?c2 ?c3 ?c4 (wr.heap.size + 1) ?c5 ?_)
        case c1 => simp [Value.oneCell']
        case c2 => unfold maxLen; omega
        case c3 => omega
        case c4 => simp; omega
        case c5 => simp
        intro g cap w1 hn1 hgr hat hlt1
        have hG := grown_append (news := [B]) hn1 hgr hat
        have e : L ++ [B] = l ++ (be8 U).take 4 := by rw [HL.out, HB.out]; simp [be8]
        rw [e] at hG
        have hF := Grown8.trans hg hG
        clear e hG hB1
        go_wp2
        go_roundw
        case rel => exact ⟨4, by omega, by simp, hF⟩
        case measure => simp [intOf]
      · obtain ⟨B, hB⟩ : ∃ B : UInt8, B = UInt8.ofNat (U / 16777216) := ⟨_, rfl⟩
        have hB0 : (B.toNat : Int) = (U : Int) / 16777216 % 256 := by rw [hB]; simp ; try omega
        have hB1 : ((U : Int) / 16777216) % 256 = (B.toNat : Int) := by omega
        have hB2 : IntKind.u8.wrap ((U : Int) / 16777216) = (B.toNat : Int) := by rw [IntKind.wrap_u8]; omega
        have HB := Lib.hid hB
        clear hB hB0
        go_wp2_with (at_builtin; refine wpList_append_lies _ rfl (.tmp 14) (.tmp 19) 91 rfl base 5 i0 (.int .u8 0) 1 1 Try.underlying91 hi hz0 hz1 hz2 rfl (by decide) _ L.length (u8s L) rfl (hown1.alloc _) ⟨wr.heap.size, 0, none⟩ 1 1 [.int .u8 (B.toNat : Int)] rfl rfl (cell_one_new _ _ _) ?c1 (by decide) ?c2 ?c3 ?c4 (wr.heap.size + 1) ?c5 ?_)
        case c1 => simp [Value.oneCell']
        case c2 => unfold maxLen; omega
        case c3 => omega
        case c4 => simp; omega
        case c5 => simp
        intro g cap w1 hn1 hgr hat hlt1
        have hG := grown_append (news := [B]) hn1 hgr hat
        have e : L ++ [B] = l ++ (be8 U).take 5 := by rw [HL.out, HB.out]; simp [be8]
        rw [e] at hG
        have hF := Grown8.trans hg hG
        clear e hG hB1
        go_wp2
        go_roundw
        case rel => exact ⟨5, by omega, by simp, hF⟩
        case measure => simp [intOf]
      · obtain ⟨B, hB⟩ : ∃ B : UInt8, B = UInt8.ofNat (U / 65536) := ⟨_, rfl⟩
        have hB0 : (B.toNat : Int) = (U : Int) / 65536 % 256 := by rw [hB]; simp ; try omega
        have hB1 : ((U : Int) / 65536) % 256 = (B.toNat : Int) := by omega
        have hB2 : IntKind.u8.wrap ((U : Int) / 65536) = (B.toNat : Int) := by rw [IntKind.wrap_u8]; omega
        have HB := Lib.hid hB
        clear hB hB0
        go_wp2_with (at_builtin; refine wpList_append_lies _ rfl (.tmp 14) (.tmp 19) 91 rfl base 5 i0 (.int .u8 0) 1 1 Try.underlying91 hi hz0 hz1 hz2 rfl (by decide) _ L.length (u8s L) rfl (hown1.alloc _) ⟨wr.heap.size, 0, none⟩ 1 1 [.int .u8 (B.toNat : Int)] rfl rfl (cell_one_new _ _ _) ?c1 (by decide) ?c2 ?c3 ?c4 (wr.heap.size + 1) ?c5 ?_)
        case c1 => simp [Value.oneCell']
        case c2 => unfold maxLen; omega
        case c3 => omega
        case c4 => simp; omega
        case c5 => simp
        intro g cap w1 hn1 hgr hat hlt1
        have hG := grown_append (news := [B]) hn1 hgr hat
        have e : L ++ [B] = l ++ (be8 U).take 6 := by rw [HL.out, HB.out]; simp [be8]
        rw [e] at hG
        have hF := Grown8.trans hg hG
        clear e hG hB1
        go_wp2
        go_roundw
        case rel => exact ⟨6, by omega, by simp, hF⟩
        case measure => simp [intOf]
      · obtain ⟨B, hB⟩ : ∃ B : UInt8, B = UInt8.ofNat (U / 256) := ⟨_, rfl⟩
        have hB0 : (B.toNat : Int) = (U : Int) / 256 % 256 := by rw [hB]; simp ; try omega
        have hB1 : ((U : Int) / 256) % 256 = (B.toNat : Int) := by omega
        have hB2 : IntKind.u8.wrap ((U : Int) / 256) = (B.toNat : Int) := by rw [IntKind.wrap_u8]; omega
        have HB := Lib.hid hB
        clear hB hB0
        go_wp2_with (at_builtin; refine wpList_append_lies _ rfl (.tmp 14) (.tmp 19) 91 rfl base 5 i0 (.int .u8 0) 1 1 Try.underlying91 hi hz0 hz1 hz2 rfl (by decide) _ L.length (u8s L) rfl (hown1.alloc _) ⟨wr.heap.size, 0, none⟩ 1 1 [.int .u8 (B.toNat : Int)] rfl rfl (cell_one_new _ _ _) ?c1 (by decide) ?c2 ?c3 ?c4 (wr.heap.size + 1) ?c5 ?_)
        case c1 => simp [Value.oneCell']
        case c2 => unfold maxLen; omega
        case c3 => omega
        case c4 => simp; omega
        case c5 => simp
        intro g cap w1 hn1 hgr hat hlt1
        have hG := grown_append (news := [B]) hn1 hgr hat
        have e : L ++ [B] = l ++ (be8 U).take 7 := by rw [HL.out, HB.out]; simp [be8]
        rw [e] at hG
        have hF := Grown8.trans hg hG
        clear e hG hB1
        go_wp2
        go_roundw
        case rel => exact ⟨7, by omega, by simp, hF⟩
        case measure => simp [intOf]
      · obtain ⟨B, hB⟩ : ∃ B : UInt8, B = UInt8.ofNat (U / 1) := ⟨_, rfl⟩
        have hB0 : (B.toNat : Int) = (U : Int) % 256 := by rw [hB]; simp
        have hB1 : ((U : Int)) % 256 = (B.toNat : Int) := by omega
        have hB2 : IntKind.u8.wrap ((U : Int)) = (B.toNat : Int) := by rw [IntKind.wrap_u8]; omega
        have HB := Lib.hid hB
        clear hB hB0
        go_wp2_with (at_builtin; refine wpList_append_lies _ rfl (.tmp 14) (.tmp 19) 91 rfl base 5 i0 (.int .u8 0) 1 1 Try.underlying91 hi hz0 hz1 hz2 rfl (by decide) _ L.length (u8s L) rfl (hown1.alloc _) ⟨wr.heap.size, 0, none⟩ 1 1 [.int .u8 (B.toNat : Int)] rfl rfl (cell_one_new _ _ _) ?c1 (by decide) ?c2 ?c3 ?c4 (wr.heap.size + 1) ?c5 ?_)
        case c1 => simp [Value.oneCell']
        case c2 => unfold maxLen; omega
        case c3 => omega
        case c4 => simp; omega
        case c5 => simp
        intro g cap w1 hn1 hgr hat hlt1
        have hG := grown_append (news := [B]) hn1 hgr hat
        have e : L ++ [B] = l ++ (be8 U).take 8 := by rw [HL.out, HB.out]; simp [be8]
        rw [e] at hG
        have hF := Grown8.trans hg hG
        clear e hG hB1
        go_wp2
        go_roundw
        case rel => exact ⟨8, by omega, by simp, hF⟩
        case measure => simp [intOf]
    · obtain rfl : k = 8 := by omega
      go_wp2
      go_ret
      exact ⟨_, rfl, hg⟩
theorem Grown8.below {w w1 w2 : World} {base : Nat} {v v1 : Value} {l : List UInt8} (h : Grown8 w base v l v1 w1) (hb : Below w1.heap.size w1 w2) : Grown8 w base v l v1 w2 :=
  ⟨h.1.kept (row := none) ⟨hb.os, hb.tape, hb.output, hb.size, fun k hk _ => hb.block k hk⟩ (by cases v1.ownBlock <;> simp), h.2.1.thenB hb, h.2.2⟩
/-- A text's bytes, behind each 00 an ff. -/
def esc (l : List UInt8) : List UInt8 := l.flatMap fun c => if c = 0 then [0, 255] else [c]
theorem esc_snoc (l : List UInt8) (c : UInt8) : esc (l ++ [c]) = esc l ++ if c = 0 then [0, 255] else [c] := by simp [esc]
theorem esc_len (l : List UInt8) : (esc l).length ≤ 2 * l.length := by
  induction l with
  | nil => simp [esc]
  | cons c r ih =>
    have : esc (c :: r) = (if c = 0 then [0, 255] else [c]) ++ esc r := by simp [esc]
    rw [this, List.length_append, List.length_cons]
    split <;> simp <;> omega
set_option maxRecDepth 100000 in
set_option maxHeartbeats 1000000 in
theorem text_app (s : ByteArray) (hs : s.size ≤ 1048576) (v : Value) (l : List UInt8) (base : Nat) (w : World) (hl : l.length ≤ 1048576) (hb : base ≤ w.heap.size) (hown : w.ownsRow base 5 1 v l.length (u8s l)) :
    Calls Try.prog 91 #[v, .string s] w (Ret8 w base v (l ++ esc s.data.toList ++ [0, 1])) := by
  obtain ⟨i0, hi, hz0, hz1, hz2⟩ := info_parts info_u8
  have hcv := Lib.run_convert_string_bytes (P := Try.prog) w 9 91 5 s (u := .string) Try.underlying9 Try.underlying91 Try.underlying5
  obtain ⟨W1, hW1⟩ : ∃ W1, W1 = Lib.bytesWorld w 5 s := ⟨_, rfl⟩
  have hB : ∀ j, j < s.size → W1.cell? ⟨w.heap.size, j, none⟩ = some (.int .u8 (s.data.toList.getD j 0).toNat) := fun j hj => by rw [hW1]; exact Lib.bytesWorld_cell w 5 s j hj
  have hbw : Below w.heap.size w W1 := by rw [hW1]; exact Lib.bytesWorld_below w 5 s
  have hWs : w.heap.size < W1.heap.size := by rw [hW1, Lib.bytesWorld_size]; omega
  rw [← hW1] at hcv
  have hsl : s.data.toList.length = s.size := by rw [Lib.size_eq]
  have HB := Lib.hid (And.intro hB hsl)
  clear hB hW1 hsl
  have hG0 := (Grown8.refl hown).below hbw
  have hfar : v.ownBlock ≠ some w.heap.size := fun e => by have := (hown.lt _ e).2; omega
  have hown1 := hG0.1
  go_enter Try.func91, Try.ntmps91
  go_wp2
  clear hcv
  go_loopw [0, 10] (fun x i wr => ∃ k : Nat, k ≤ s.size ∧ i = .int .i64 (k : Int) ∧ Grown8 W1 base v (l ++ esc (s.data.toList.take k)) x wr) (fun _ i _ => s.size - (intOf i).toNat)
  case atStart => exact ⟨0, Nat.zero_le _, rfl, by simpa [esc] using Grown8.refl hown1⟩
  case round =>
    obtain ⟨k, hk, rfl, hg⟩ := hrel
    have hsz := hg.2.1.size
    clear hown hown1
    have hel := esc_len (s.data.toList.take k)
    have htk : (s.data.toList.take k).length ≤ k := List.length_take_le _ _
    have hbl : (l ++ esc (s.data.toList.take k)).length ≤ 1048576 + 2 * k := by rw [List.length_append]; omega
    obtain ⟨L, hL⟩ : ∃ L, L = l ++ esc (s.data.toList.take k) := ⟨_, rfl⟩
    rw [← hL] at hg hbl
    have HL := Lib.hid hL
    clear hL hel htk
    have hown1 := hg.1
    by_cases hlt : k < s.size
    · have hlt' : decide ((k : Int) < (s.size : Int)) = true := decide_eq_true (by omega)
      have hc := (hg.2.1.cell (p := ⟨w.heap.size, k, none⟩) hWs hfar).trans (HB.out.1 k hlt)
      have hts : s.data.toList.take (k + 1) = s.data.toList.take k ++ [s.data.toList.getD k 0] := by
        rw [List.take_succ_eq_append_getElem (by rw [HB.out.2]; exact hlt), List.getD_eq_getElem?_getD, List.getElem?_eq_getElem (by rw [HB.out.2]; exact hlt)]; rfl
      generalize s.data.toList.getD k 0 = c at hc hts
      have hc256 : (c.toNat : Int) < 256 := by have := c.toNat_lt; omega
      have hc0 : (0 : Int) ≤ (c.toNat : Int) := by omega
      have HT := Lib.hid hts
      clear hts
      go_wp2_with (at_builtin; refine wpList_append_lies _ rfl (.tmp 14) (.tmp 16) 91 rfl base 5 i0 (.int .u8 0) 1 1 Try.underlying91 hi hz0 hz1 hz2 rfl (by decide) _ L.length (u8s L) rfl (hown1.alloc _) ⟨wr.heap.size, 0, none⟩ 1 1 [.int .u8 (c.toNat : Int)] rfl rfl (cell_one_new _ _ _) ?c1 (by decide) ?c2 ?c3 ?c4 (wr.heap.size + 1) ?c5 ?_)
      case c1 => simp [Value.oneCell']
      case c2 => unfold maxLen; omega
      case c3 => omega
      case c4 => simp; omega
      case c5 => simp
      intro g cap w1 hn1 hgr hat hlt1
      have hG := Grown8.trans hg (grown_append (news := [c]) hn1 hgr hat)
      have hzg := hG.2.1.size
      have hown2 := hG.1
      clear hgr hat hn1
      by_cases h0 : (c.toNat : Int) = 0
      · have hd : ((c.toNat : Int) == 0) = true := by simp [h0]
        have hcz : c = 0 := UInt8.toNat_inj.1 (by simp; omega)
        have HC := Lib.hid hcz
        clear h0 hcz
        obtain ⟨L2, hL2⟩ : ∃ L2, L2 = L ++ [c] := ⟨_, rfl⟩
        rw [← hL2] at hG hown2
        have hL2l : L2.length = L.length + 1 := by rw [hL2]; simp
        have hL2m : L2.length ≤ 1048577 + 2 * k := by omega
        have HL2 := Lib.hid hL2
        clear hL2 hL2l
        go_wp2_with (at_builtin; refine wpList_append_lies _ rfl (.tmp 20) (.tmp 21) 91 rfl base 5 i0 (.int .u8 0) 1 1 Try.underlying91 hi hz0 hz1 hz2 rfl (by decide) _ L2.length (u8s L2) rfl (hown2.alloc _) ⟨w1.heap.size, 0, none⟩ 1 1 [.int .u8 255] rfl rfl (cell_one_new _ _ _) ?c1 (by decide) ?c2 ?c3 ?c4 (w1.heap.size + 1) ?c5 ?_)
        case c1 => simp [Value.oneCell']
        case c2 => unfold maxLen; omega
        case c3 => omega
        case c4 => simp; omega
        case c5 => simp
        intro g2 cap2 w2 hn2 hgr2 hat2 hlt2
        have hG2 := Grown8.trans hG (grown_append (news := [255]) hn2 hgr2 hat2)
        have e : L2 ++ [255] = l ++ esc (s.data.toList.take (k + 1)) := by rw [HL2.out, HL.out, HT.out, esc_snoc, if_pos HC.out, HC.out]; simp
        rw [e] at hG2
        clear e hgr2 hat2 hn2
        go_wp2
        go_roundw
        case rel => exact ⟨k + 1, by omega, by go_num, hG2⟩
        case measure => simp [intOf]; omega
      · have hd : ((c.toNat : Int) == 0) = false := beq_false_of_ne h0
        have hcz : c ≠ 0 := fun e => h0 (by rw [e]; rfl)
        have e : L ++ [c] = l ++ esc (s.data.toList.take (k + 1)) := by rw [HL.out, HT.out, esc_snoc, if_neg hcz]; simp
        rw [e] at hG
        clear e hown2 hcz h0
        go_wp2
        go_roundw
        case rel => exact ⟨k + 1, by omega, by go_num, hG⟩
        case measure => simp [intOf]; omega
    · have hlt' : decide ((k : Int) < (s.size : Int)) = false := decide_eq_false (by omega)
      go_wp2_with (at_builtin; refine wpList_append_lies _ rfl (.tmp 24) (.tmp 25) 91 rfl base 5 i0 (.int .u8 0) 1 1 Try.underlying91 hi hz0 hz1 hz2 rfl (by decide) _ L.length (u8s L) rfl (hown1.alloc _) ⟨wr.heap.size, 0, none⟩ 2 2 [.int .u8 0, .int .u8 1] rfl rfl (World.news_of_block (cs := #[.int .u8 0, .int .u8 1]) (t := 5) (fr := (0, 0)) (heap_alloc_new _ _)) ?c1 (by decide) ?c2 ?c3 ?c4 (wr.heap.size + 1) ?c5 ?_)
      case c1 => simp [Value.oneCell']
      case c2 => unfold maxLen; omega
      case c3 => omega
      case c4 => simp; omega
      case c5 => simp
      intro g cap w1 hn1 hgr hat hlt1
      have hG := Grown8.trans hG0 (Grown8.trans hg (grown_append (news := [0, 1]) hn1 hgr hat))
      have e : L = l ++ esc s.data.toList := by rw [HL.out, List.take_of_length_le (by rw [HB.out.2]; omega)]
      have hG' : Grown8 w base v (l ++ esc s.data.toList ++ [0, 1]) (.slice (some ⟨g, 0, none⟩) (L.length + 2) cap) w1 := by rw [← e]; exact hG
      clear e hn1 hgr hat hG
      go_wp2
      go_ret
      exact ⟨_, rfl, hG'⟩
end Go.Proofs.Ytapnkbamilkpoaa
