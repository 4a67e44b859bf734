/- Contracts of codec's writers: put, number, Size, Signed, Text. -/
import Derived.Test.YtapcnpocaffeoabWorld
import Derived.Test.YtapcnpocaffeoabB8
import Derived.Test.YtapcnpocaffeoabRows
import Derived.Test.YtapcnpocaffeoabShelf
import Derived.Deep.RegionHeld3
import Derived.Deep.QuietTactic
import Derived.BigQuiet
import Derived.Deep.AppendLies
import Derived.Laws.AppendOwnNone
import Derived.Laws.OwnMore
import Derived.Laws.Bits64
import Derived.Laws.BitsAllLaws
import Derived.Laws.IdiomStrings
import Derived.Lib.ConvBytes
import Derived.Lib.AtoiErrMem
import Derived.Lib.BitFns
import Derived.Lib.Strings
import Derived.Lib.CutLaws
import Derived.IntWalk
namespace Go.Proofs.Ytapcnpocaffeoab
open Go.RowKit
theorem w8s_app (a b : List UInt8) : b8s (a ++ b) = b8s a ++ b8s b := by simp [b8s]
/-- The block of what a writer has. -/
def WRow (w : World) (b : Nat) : Option Nat := (w.cell? ⟨b, 0, none⟩).bind Value.ownBlock
/-- A writer at block b that has the bytes l. -/
def WAt (w : World) (b : Nat) (l : List UInt8) : Prop := b < w.heap.size ∧ w.frozen? ⟨b, 0, none⟩ = false ∧ ∃ a c, w.cell? ⟨b, 0, none⟩ = some (.slice a l.length c) ∧ w.ownsRow (b + 1) 5 1 (.slice a l.length c) l.length (b8s l)
/-- What a writer's call may have changed: its cell, its row; new blocks. -/
def WChg (b : Nat) (w w' : World) : Prop := Chg (fun k => k = b ∨ WRow w b = some k) w w' ∧ ∀ g, WRow w' b = some g → w.heap.size ≤ g ∨ WRow w b = some g
theorem WChg.refl (b : Nat) (w : World) : WChg b w w := ⟨Chg.refl _ _, fun _ h => .inr h⟩
theorem WChg.trans {b : Nat} {w w1 w2 : World} (h : WChg b w w1) (k : WChg b w1 w2) : WChg b w w2 := by
  obtain ⟨h1, h2⟩ := h
  obtain ⟨k1, k2⟩ := k
  have hz := h1.size
  refine ⟨⟨k1.os.trans h1.os, k1.tape.trans h1.tape, k1.output.trans h1.output, Nat.le_trans h1.size k1.size, fun j hj hs => ?_⟩, fun g hg => ?_⟩
  · rw [k1.block j (by omega) (fun e => by
      rcases e with e | e
      · exact hs (.inl e)
      · rcases h2 j e with x | x
        · omega
        · exact hs (.inr x))]
    exact h1.block j hj hs
  · rcases k2 g hg with x | x
    · exact .inl (by omega)
    · exact h2 g x
theorem WRow.below {b : Nat} {w w1 : World} (hb : b < w.heap.size) (h : Below w.heap.size w w1) : WRow w1 b = WRow w b := by
  unfold WRow; rw [h.cell (p := ⟨b, 0, none⟩) hb]
theorem WChg.thenB {b : Nat} {w w1 w2 : World} (hb : b < w.heap.size) (h : WChg b w w1) (k : Below w1.heap.size w1 w2) : WChg b w w2 :=
  h.trans ⟨Chg.ofBelow k, fun g hg => .inr (by rw [WRow.below (Nat.lt_of_lt_of_le hb h.1.size) k] at hg; exact hg)⟩
theorem WChg.alloc {b : Nat} {w w1 : World} (hb : b < w.heap.size) (h : WChg b w w1) (o : Obj) : WChg b w (w1.alloc o) := h.thenB hb ((Below.refl _ _).alloc (Nat.le_refl _) o)
theorem WAt.below {w w' : World} {b : Nat} {l : List UInt8} (h : WAt w b l) (hb : Below w.heap.size w w') : WAt w' b l := by
  obtain ⟨h0, h1, a, c, h2, h3⟩ := h
  refine ⟨Nat.lt_of_lt_of_le h0 hb.size, (hb.frozen (p := ⟨b, 0, none⟩) h0).trans h1, a, c, (hb.cell (p := ⟨b, 0, none⟩) h0).trans h2, ?_⟩
  exact h3.kept (row := none) ⟨hb.os, hb.tape, hb.output, hb.size, fun k hk _ => hb.block k hk⟩ (by cases (Value.slice a l.length c).ownBlock <;> simp)
/-- Bytes that lie in memory, as a slice that is handed in. -/
def Src (w : World) (a : Option Addr) (l : List UInt8) : Prop := l = [] ∨ ∃ k o, a = some ⟨k, o, none⟩ ∧ ∀ j u, (b8s l)[j]? = some u → w.cell? ((⟨k, o, none⟩ : Addr).add j) = some u
theorem load0 {P : Program} {w : World} (a : Addr) : (loadCells a 0).run P w = .ok #[] w := by simp [loadCells, loadCellsFrom]
theorem wat_set {w : World} {b : Nat} {l : List UInt8} {a : Option Addr} {c : Nat} {u : Value} (hb : b < w.heap.size) (hf : w.frozen? ⟨b, 0, none⟩ = false) (hc : w.cell? ⟨b, 0, none⟩ = some u) (hown : w.ownsRow (b + 1) 5 1 (.slice a l.length c) l.length (b8s l)) : WAt (w.setCell ⟨b, 0, none⟩ (.slice a l.length c)) b l := by
  refine ⟨by simpa using hb, by rw [← hf]; go_simp, a, c, World.cell?_setCell_same w _ _ hc, ?_⟩
  refine hown.kept (row := some b) ⟨rfl, rfl, rfl, by simp, fun k hk hne => Below.heap_setCell _ _ _ _ (fun e => hne (by rw [e]))⟩ ?_
  cases ho : (Value.slice a l.length c).ownBlock with
  | none => exact .inl rfl
  | some k => exact .inr (fun e => by injection e with e; have := (hown.lt k ho).1; omega)
theorem wchg_set {w w1 : World} {b : Nat} {u v : Value} (hc : w.cell? ⟨b, 0, none⟩ = some u) (hu : u.ownBlock ≠ some b) (hgr : w.grownBy w1 u.ownBlock) (hv : ∀ g, v.ownBlock = some g → w.heap.size ≤ g ∨ u.ownBlock = some g) : WChg b w (w1.setCell ⟨b, 0, none⟩ v) := by
  have hw : WRow w b = u.ownBlock := by unfold WRow; rw [hc]; rfl
  have hc1 : w1.cell? ⟨b, 0, none⟩ = some u := World.grownBy.cell hgr hc (fun e => hu e.symm)
  refine ⟨((Chg.refl _ w).grown hgr (fun k hk => .inr (.inr (by rw [hw]; exact hk)))).setCell (.inr (.inl rfl)) v, fun g hg => ?_⟩
  rw [hw]
  unfold WRow at hg
  rw [World.cell?_setCell_same w1 _ _ hc1] at hg
  exact hv g hg
theorem grown_refl (w : World) (row : Option Nat) : w.grownBy w row := ⟨rfl, rfl, rfl, Nat.le_refl _, fun _ _ _ => rfl⟩
theorem run_append_zero {P : Program} {w : World} (base : Nat) (t ty e : TypeId) (i : TypeInfo) (size : Nat) (ht : P.underlying t = some (.slice e)) (hi : P.info? e = some i)
    (v : Value) (n : Nat) (xs : List Value) (hown : w.ownsRow base e size v n xs) (a : Option Addr) (c : Nat) :
    (Builtin.append_ #[t, t] ty #[v, .slice a 0 c]).run P w = .ok v w := by
  rcases hown.2 with ⟨rfl, rfl⟩ | ⟨g, cap, cur, rfl, _, _, hnc, _⟩
  · cases a <;> simp [Builtin.append_, run_underlying ht, sizeOf, typeInfo, hi, Builtin.lenOf, Builtin.firstCells, load0]
  · cases a <;> simp [Builtin.append_, run_underlying ht, sizeOf, typeInfo, hi, Builtin.lenOf, Builtin.firstCells, hnc, storeCells, load0]
theorem wpList_append_zero {P : Program} {w : World} {ops : Array Oper} {rest : List Oper} {o : Oper} {a : Act} {Q : Exit → Act → World → Prop} (hgd : o.guard = none) (s x : Operand) (t : TypeId)
    (ho : o.op = .call { callee := .builtin .append, args := #[s, x], argTypes := #[t, t] })
    (base : Nat) (e : TypeId) (i : TypeInfo) (size : Nat) (ht : P.underlying t = some (.slice e)) (hi : P.info? e = some i)
    (v : Value) (n : Nat) (xs : List Value) (hs : a.eval s = v) (hown : w.ownsRow base e size v n xs) (ad : Option Addr) (c : Nat) (hx : a.eval x = .slice ad 0 c)
    (h : wpList P ops Q rest (a.put o.dst v) w) : wpList P ops Q (o :: rest) a w := by
  refine wpList_plain hgd fun K hK => ?_
  have hrun := run_append_zero (P := P) (w := w) base t o.type e i size ht hi v n xs hown ad c
  unfold Oper.wp
  simp [execOp, ho, resolve, invoke, builtin, hs, hx, hrun, Result.andThen]
  exact hK _ _ h
set_option maxHeartbeats 400000 in
theorem put_nil (x : Value) (w : World) : Calls Try.prog 42 #[.pointer none, x] w fun e w' => e = .returned (.tuple #[]) ∧ w = w' := by
  go_enter Try.func42, Try.ntmps42
  go_wp2
  go_end0
  exact ⟨rfl, rfl⟩
set_option maxRecDepth 100000 in
set_option maxHeartbeats 1000000 in
theorem wput_any (b : Nat) (l news : List UInt8) (a : Option Addr) (m c : Nat) (w : World) (hm : news.length = m) (hl : l.length ≤ 1073741824) (hm2 : m ≤ 1073741824) (hW : WAt w b l) (hS : Src w a news) :
    Calls Try.prog 42 #[.pointer (some ⟨b, 0, none⟩), .slice a m c] w fun e w' => e = .returned (.tuple #[]) ∧ WAt w' b (l ++ news) ∧ WChg b w w' := by
  obtain ⟨i0, hi, hz0, hz1, hz2⟩ := info_parts info_b8
  obtain ⟨hb, hf, a0, c0, hc, hown⟩ := hW
  have HF := Lib.hid hf
  have HO := Lib.hid hown
  have HC := Lib.hid hc
  clear hown
  by_cases hn : news = []
  · subst hn
    simp only [List.length_nil] at hm
    subst hm
    go_enter Try.func42, Try.ntmps42
    go_wp2_with (at_builtin; refine wpList_append_zero rfl (.tmp 11) (.tmp 12) 39 rfl (b + 1) 5 i0 1 Try.underlying39 hi (.slice a0 l.length c0) l.length (b8s l) rfl HO.out _ _ rfl ?_)
    go_wp2
    go_end0
    rw [List.append_nil]
    have hne : (Value.slice a0 l.length c0).ownBlock ≠ some b := fun e => by have := (HO.out.lt b e).1; omega
    exact ⟨rfl, wat_set hb HF.out HC.out HO.out, wchg_set HC.out hne (grown_refl _ _) (fun g hg => .inr hg)⟩
  · rcases hS with hS | ⟨k, o, rfl, hcells⟩
    · exact absurd hS hn
    have hm0 : 0 < m := by rw [← hm]; exact List.length_pos_iff.2 hn
    have HM := Lib.hid hm
    have HCS := Lib.hid hcells
    have hlen : (b8s news).length = m * 1 := by rw [Nat.mul_one, ← hm]; simp [b8s]
    have HLN := Lib.hid hlen
    have h1 : ∀ u ∈ b8s news, u.oneCell' = true := by
      intro u hu
      simp [b8s] at hu
      obtain ⟨x, _, rfl⟩ := hu
      rfl
    have H1 := Lib.hid h1
    clear hm hcells hlen hn h1
    go_enter Try.func42, Try.ntmps42
    go_wp2_with (at_builtin; refine wpList_append_lies _ rfl (.tmp 11) (.tmp 12) 39 rfl (b + 1) 5 i0 (.int .u8 0) 1 1 Try.underlying39 hi hz0 hz1 hz2 rfl (by decide) (.slice a0 l.length c0) l.length (b8s l) rfl HO.out ⟨k, o, none⟩ m c (b8s news) rfl HLN.out HCS.out H1.out hm0 ?c2 ?c3 ?c4 w.heap.size rfl ?_)
    case c2 => unfold maxLen; omega
    case c3 => omega
    case c4 => omega
    intro g cap w1 hn1 hgr hat hgl
    have hne : (Value.slice a0 l.length c0).ownBlock ≠ some b := fun e => by have := (HO.out.lt b e).1; omega
    have hb1 : b < w1.heap.size := Nat.lt_of_lt_of_le hb hgr.size
    have hc1 : w1.cell? ⟨b, 0, none⟩ = some (.slice a0 l.length c0) := World.grownBy.cell hgr HC.out (fun e => hne e.symm)
    have hf1 : w1.frozen? ⟨b, 0, none⟩ = false := by rw [World.frozen?_of_block (hgr.block b hb (fun e => hne e.symm))]; exact HF.out
    have hO1 : w1.ownsRow (b + 1) 5 1 (.slice (some ⟨g, 0, none⟩) (l ++ news).length cap) (l ++ news).length (b8s (l ++ news)) := by rw [w8s_app, List.length_append, HM.out]; exact hn1
    have hch := wchg_set (v := .slice (some ⟨g, 0, none⟩) (l ++ news).length cap) HC.out hne hgr (fun g' hg' => by
      have : g' = g := by simpa [Value.ownBlock] using hg'.symm
      subst this
      rcases hat with h | h
      · exact .inr h
      · exact .inl (by omega))
    have hwa := wat_set hb1 hf1 hc1 hO1
    have hll : (l ++ news).length = l.length + m := by rw [List.length_append, HM.out]
    rw [hll] at hch hwa
    have HCH := Lib.hid hch
    have HWA := Lib.hid hwa
    clear hn1 hgr hat hO1 hll hch hwa
    go_wp2
    go_end0
    exact ⟨rfl, HWA.out, HCH.out⟩
/-- A number's bytes, the highest first, without zeros ahead. -/
def digs : Nat → Nat → List UInt8
  | 0, _ => []
  | f + 1, n => if n = 0 then [] else digs f (n / 256) ++ [UInt8.ofNat n]
/-- How a number is laid: how many bytes, and these. -/
def numB (n : Nat) : List UInt8 := UInt8.ofNat (digs 8 n).length :: digs 8 n
theorem digs_zero : ∀ f, digs f 0 = [] := fun f => by cases f <;> simp [digs]
theorem digs_len_le : ∀ f n, (digs f n).length ≤ f
  | 0, _ => Nat.le_refl _
  | f + 1, n => by
    simp only [digs]
    split
    · simp
    · rw [List.length_append]; have := digs_len_le f (n / 256); simp; omega
theorem digs_small : ∀ (f n : Nat), n < 256 ^ f → ∀ k, (digs f n).length ≤ k → n < 256 ^ k
  | 0, n, h, k, _ => by simp at h; subst h; exact Nat.pow_pos (by omega)
  | f + 1, n, h, k, hk => by
    simp only [digs] at hk
    split at hk
    · rename_i h0; subst h0; exact Nat.pow_pos (by omega)
    · rw [List.length_append] at hk
      simp only [List.length_cons, List.length_nil] at hk
      obtain ⟨k, rfl⟩ : ∃ j, k = j + 1 := ⟨k - 1, by omega⟩
      have := digs_small f (n / 256) (by rw [Nat.pow_succ] at h; exact Nat.div_lt_of_lt_mul (by omega)) k (by omega)
      rw [Nat.pow_succ]; omega
theorem bitLen_aux : ∀ (f n : Nat), n < 2 ^ f → (∀ k, n < 2 ^ k ↔ Lib.bitLenAux f n ≤ k)
  | 0, n, h, k => by simp at h; subst h; simp [Lib.bitLenAux, Nat.pow_pos]
  | f + 1, n, h, k => by
    simp only [Lib.bitLenAux]
    split
    · rename_i h0; subst h0; simp [Nat.pow_pos]
    · rename_i h0
      have ih := bitLen_aux f (n / 2) (by rw [Nat.pow_succ] at h; omega)
      cases k with
      | zero => simp; omega
      | succ k =>
        have := ih k
        rw [Nat.pow_succ]
        constructor
        · intro h1; have := this.1 (by omega); omega
        · intro h1; have := this.2 (by omega); omega
theorem digs_ge : ∀ (f n k : Nat), n < 256 ^ f → n < 256 ^ k → (digs f n).length ≤ k
  | 0, n, k, _, _ => Nat.zero_le _
  | f + 1, n, k, h, hk => by
    simp only [digs]
    split
    · simp
    · rename_i h0
      cases k with
      | zero => simp at hk; omega
      | succ k =>
        rw [List.length_append]
        have := digs_ge f (n / 256) k (by rw [Nat.pow_succ] at h; exact Nat.div_lt_of_lt_mul (by omega)) (by rw [Nat.pow_succ] at hk; exact Nat.div_lt_of_lt_mul (by omega))
        simp; omega
/-- How many bytes a number has. -/
theorem width_eq (n : Nat) (h : n < 18446744073709551616) : (Lib.bitLen n + 7) / 8 = (digs 8 n).length := by
  have hb := bitLen_aux 64 n h
  have h8 : n < 256 ^ 8 := h
  have p : ∀ k, (256 : Nat) ^ k = 2 ^ (8 * k) := fun k => by rw [Nat.pow_mul]
  apply Nat.le_antisymm
  · have h1 := digs_small 8 n h8 (digs 8 n).length (Nat.le_refl _)
    rw [p] at h1
    have h2 := (hb _).1 h1
    unfold Lib.bitLen
    omega
  · refine digs_ge 8 n _ h8 ?_
    rw [p]
    refine (hb _).2 ?_
    unfold Lib.bitLen
    omega
set_option maxHeartbeats 400000 in
theorem width_any (n : Nat) (h : n < 18446744073709551616) (w : World) : Calls Try.prog 60 #[.int .u64 (n : Int)] w fun e w' => e = .returned (.int .i64 (((digs 8 n).length : Nat) : Int)) ∧ w = w' := by
  have hl := width_eq n h
  have hd := digs_len_le 8 n
  have hc := Try.bits_Len64 (n : Int) w (by omega) (by omega)
  rw [Int.toNat_natCast] at hc
  generalize Lib.bitLen n = L at hl hc
  generalize (digs 8 n).length = D at hl hd ⊢
  have hl' : ((L : Int) + 7) / 8 = (D : Int) := by omega
  have hL : L ≤ 64 := by omega
  have HC := Lib.hid hc
  clear hc hl
  go_enter Try.func60, Try.ntmps60
  go_wp2_with fail
  refine HC.out.mono ?_
  rintro e w1 ⟨rfl, rfl⟩
  go_wp2
  go_ret
  exact ⟨ret_int hl', rfl⟩
theorem digs_at : ∀ (f n k : Nat), k < (digs f n).length → (digs f n)[k]? = some (UInt8.ofNat (n / 256 ^ ((digs f n).length - 1 - k)))
  | 0, n, k, h => by simp [digs] at h
  | f + 1, n, k, h => by
    simp only [digs] at h ⊢
    split
    · rename_i h0; rw [if_pos h0] at h; simp at h
    · rename_i h0
      rw [if_neg h0] at h
      rw [List.length_append] at h ⊢
      simp only [List.length_cons, List.length_nil] at h ⊢
      by_cases hk : k < (digs f (n / 256)).length
      · rw [List.getElem?_append_left hk, digs_at f (n / 256) k hk, Nat.div_div_eq_div_mul, show (digs f (n / 256)).length + (0 + 1) - 1 - k = ((digs f (n / 256)).length - 1 - k) + 1 by omega, Nat.pow_succ, Nat.mul_comm]
      · have hk2 : k = (digs f (n / 256)).length := by omega
        subst hk2
        rw [List.getElem?_append_right (Nat.le_refl _)]
        simp
theorem digs_take (f n k : Nat) (h : k < (digs f n).length) : (digs f n).take (k + 1) = (digs f n).take k ++ [UInt8.ofNat (n / 256 ^ ((digs f n).length - 1 - k))] := by
  rw [List.take_add_one, digs_at f n k h]; rfl
set_option maxHeartbeats 400000 in
theorem number_nil (n : Nat) (h : n < 18446744073709551616) (w : World) : Calls Try.prog 40 #[.pointer none, .int .u64 (n : Int)] w fun e w' => e = .returned (.tuple #[]) ∧ Below w.heap.size w w' := by
  have hd := digs_len_le 8 n
  have HW := Lib.hid (width_any n h)
  have HA := Lib.hid (fun (W : World) (o : Obj) => (Below.refl W.heap.size W).alloc (Nat.le_refl _) o)
  generalize (digs 8 n).length = D at *
  clear h
  go_enter Try.func40, Try.ntmps40
  go_wp2_with fail
  refine (HW.out _).mono ?_
  rintro e w0 ⟨rfl, rfl⟩
  go_wp2_with fail
  refine (put_nil _ _).mono ?_
  rintro e w1 ⟨rfl, rfl⟩
  have HB1 := Lib.hid (HA.out w (.cells #[.int .u8 (D : Int)] 5))
  go_wp2
  go_loopw [5] (fun i wr => ∃ k : Nat, k ≤ D ∧ i = .int .i64 ((D : Int) - 1 - (k : Int)) ∧ Below w.heap.size w wr) (fun i _ => (intOf i + 1).toNat)
  case atStart => exact ⟨0, Nat.zero_le _, by simp, HB1.out⟩
  case round =>
    obtain ⟨k, hk, rfl, hbel⟩ := hrel
    have hszr := hbel.size
    clear HB1
    by_cases hlt : k < D
    · have hge : decide ((0 : Int) ≤ (D : Int) - 1 - (k : Int)) = true := decide_eq_true (by omega)
      obtain ⟨i, hi⟩ : ∃ i : Nat, i = D - 1 - k := ⟨_, rfl⟩
      have hii : (D : Int) - 1 - (k : Int) = (i : Int) := by omega
      have hi8 : i < 8 := by omega
      rw [hii]
      rw [hii] at hge
      have hi0 : (0 : Int) ≤ (i : Int) := by omega
      have HII := Lib.hid hii
      clear hi hii
      go_wp2_with fail
      refine (put_nil _ _).mono ?_
      rintro e w2 ⟨rfl, rfl⟩
      go_wp2
      go_roundw
      case rel => exact ⟨k + 1, by omega, by rw [← HII.out]; congr 1; omega, hbel.alloc hszr _⟩
      case measure => first | (simp [intOf]; done) | (simp [intOf]; omega)
    · obtain rfl : k = D := by omega
      have hge : decide ((0 : Int) ≤ (k : Int) - 1 - (k : Int)) = false := decide_eq_false (by omega)
      have hge' : (k : Int) - 1 - (k : Int) = -1 := by omega
      go_wp2
      go_end0
      exact ⟨rfl, hbel⟩
set_option maxRecDepth 100000 in
set_option maxHeartbeats 1000000 in
theorem wnumber_any (b n : Nat) (h : n < 18446744073709551616) (l : List UInt8) (w : World) (hl : l.length ≤ 536870912) (hW : WAt w b l) :
    Calls Try.prog 40 #[.pointer (some ⟨b, 0, none⟩), .int .u64 (n : Int)] w fun e w' => e = .returned (.tuple #[]) ∧ WAt w' b (l ++ numB n) ∧ WChg b w w' := by
  have hd := digs_len_le 8 n
  have ht := fun k hk => digs_take 8 n k hk
  have hw := width_any n h
  have hall : (digs 8 n).take (digs 8 n).length = digs 8 n := List.take_length
  have hnB : numB n = UInt8.ofNat (digs 8 n).length :: digs 8 n := rfl
  rw [hnB]
  generalize hD : (digs 8 n).length = D at *
  have hA : Below w.heap.size w (w.alloc (.cells #[.int .u8 (D : Int)] 5)) := (Below.refl _ _).alloc (Nat.le_refl _) _
  have hDb : ((UInt8.ofNat D).toNat : Int) = (D : Int) := by rw [UInt8.toNat_ofNat']; omega
  have hput := wput_any b l [UInt8.ofNat D] (some ⟨w.heap.size, 0, none⟩) 1 1 _ rfl (by omega) (by omega) (hW.below hA) (.inr ⟨w.heap.size, 0, rfl, by
    have : b8s [UInt8.ofNat D] = [.int .u8 (D : Int)] := by simp only [b8s, List.map_cons, List.map_nil, hDb]
    rw [this]; exact one_cell_new _ _ _⟩)
  have HP := Lib.hid hput
  have HW := Lib.hid hw
  have HT := Lib.hid ht
  have HALL := Lib.hid hall
  have HWB := Lib.hid hW.1
  have HC0 := Lib.hid ((WChg.refl b w).alloc hW.1 (.cells #[.int .u8 (D : Int)] 5))
  have HN := Lib.hid h
  have HDD := Lib.hid hD
  clear hput hw ht hall hA hW hDb h hnB hD
  go_enter Try.func40, Try.ntmps40
  go_wp2_with fail
  refine (HW.out _).mono ?_
  rintro e w0 ⟨rfl, rfl⟩
  go_wp2_with fail
  refine HP.out.mono ?_
  rintro e w1 ⟨rfl, hW1, hC1⟩
  have HC1 := Lib.hid (HC0.out.trans hC1)
  have HW1 := Lib.hid hW1
  clear hW1 hC1 HP HC0
  go_wp2
  go_loopw [5] (fun i wr => ∃ k : Nat, k ≤ D ∧ i = .int .i64 ((D : Int) - 1 - (k : Int)) ∧ WAt wr b (l ++ [UInt8.ofNat D] ++ (digs 8 n).take k) ∧ WChg b w wr) (fun i _ => (intOf i + 1).toNat)
  case atStart => exact ⟨0, Nat.zero_le _, by simp, by rw [List.take_zero, List.append_nil]; exact HW1.out, HC1.out⟩
  case round =>
    obtain ⟨k, hk, rfl, hWk, hCk⟩ := hrel
    have HWK := Lib.hid hWk
    have HCK := Lib.hid hCk
    clear hWk hCk HW1 HC1
    by_cases hlt : k < D
    · have hge : decide ((0 : Int) ≤ (D : Int) - 1 - (k : Int)) = true := decide_eq_true (by omega)
      obtain ⟨i, hi⟩ : ∃ i : Nat, i = D - 1 - k := ⟨_, rfl⟩
      have hii : (D : Int) - 1 - (k : Int) = (i : Int) := by omega
      have ht1 := HT.out k hlt
      rw [← hi] at ht1
      have hi8 : i < 8 := by omega
      rw [hii]
      rw [hii] at hge
      have hi0 : (0 : Int) ≤ (i : Int) := by omega
      obtain ⟨B, hB⟩ : ∃ B : UInt8, B = UInt8.ofNat (n / 256 ^ i) := ⟨_, rfl⟩
      have hBi : (n : Int) / 2 ^ (8 * i) % 256 = (B.toNat : Int) := by
        have e : (n : Int) / 2 ^ (8 * i) = ((n / 256 ^ i : Nat) : Int) := by
          rw [show (2 : Int) ^ (8 * i) = ((256 ^ i : Nat) : Int) by rw [show (256 : Nat) = 2 ^ 8 from rfl, ← Nat.pow_mul]; simp]
          exact (Int.natCast_ediv n (256 ^ i)).symm
        rw [e, hB, UInt8.toNat_ofNat']; omega
      rw [← hB] at ht1
      have hAw : Below wr.heap.size wr (wr.alloc (.cells #[.int .u8 (B.toNat : Int)] 5)) := (Below.refl _ _).alloc (Nat.le_refl _) _
      have htl : ((digs 8 n).take k).length ≤ k := List.length_take_le _ _
      have hput := wput_any b (l ++ [UInt8.ofNat D] ++ (digs 8 n).take k) [B] (some ⟨wr.heap.size, 0, none⟩) 1 1 _ rfl (by simp only [List.length_append, List.length_cons, List.length_nil]; omega) (by omega) (HWK.out.below hAw) (.inr ⟨wr.heap.size, 0, rfl, one_cell_new wr 5 (.int .u8 (B.toNat : Int))⟩)
      rw [List.append_assoc _ _ [B], ← ht1] at hput
      have HP := Lib.hid hput
      have HC2 := Lib.hid (HCK.out.alloc HWB.out (.cells #[.int .u8 (B.toNat : Int)] 5))
      have HI := Lib.hid hi
      have HII := Lib.hid hii
      clear hi hii ht1 hB hAw htl hput
      go_wp2_with fail
      refine HP.out.mono ?_
      rintro e w2 ⟨rfl, hW2, hC2⟩
      have HC3 := Lib.hid (HC2.out.trans hC2)
      have HW2 := Lib.hid hW2
      clear hW2 hC2 HP HC2 HWK HCK hBi
      go_wp2
      go_roundw
      case rel => exact ⟨k + 1, by omega, by rw [← HII.out]; congr 1; omega, HW2.out, HC3.out⟩
      case measure => first | (simp [intOf]; done) | (simp [intOf]; omega)
    · obtain rfl : k = D := by omega
      have hge : decide ((0 : Int) ≤ (k : Int) - 1 - (k : Int)) = false := decide_eq_false (by omega)
      have hge' : (k : Int) - 1 - (k : Int) = -1 := by omega
      have hW2 := HWK.out
      rw [HALL.out, List.append_assoc] at hW2
      have HW2 := Lib.hid hW2
      clear hW2 HWK
      go_wp2
      go_end0
      exact ⟨rfl, HW2.out, HCK.out⟩
end Go.Proofs.Ytapcnpocaffeoab
