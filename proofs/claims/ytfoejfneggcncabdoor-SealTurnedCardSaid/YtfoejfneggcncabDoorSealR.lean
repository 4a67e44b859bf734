/- The document's sums and frames. -/
import Derived.Test.YtfoejfneggcncabDoorOpens
import Derived.Deep.AppendLies
namespace Go.Proofs.YtfoejfneggcncabDoor
open Go.RowKit
theorem bit_step (r b : Nat) (hb : b < 2) : bit1 (r ^^^ b) = if r % 2 = b then r / 2 else r / 2 ^^^ PL := by
  unfold bit1
  rw [xor_mod2, xor_div2, show b / 2 = 0 by omega, Nat.xor_zero]
  have := Nat.mod_lt r (show 2 > 0 by omega)
  by_cases h : r % 2 = b
  · rw [if_pos h, if_neg (by omega)]
  · rw [if_neg h, if_pos (by omega)]
theorem bits_step (R c j : Nat) : sh (j + 1) (R ^^^ c % 2 ^ (j + 1)) = if sh j (R ^^^ c % 2 ^ j) % 2 = c / 2 ^ j % 2 then sh j (R ^^^ c % 2 ^ j) / 2 else sh j (R ^^^ c % 2 ^ j) / 2 ^^^ PL := by
  rw [mod_succ, ← Nat.xor_assoc, sh_add j 1, sh_xor j, sh_pow]
  exact bit_step _ _ (by omega)
def b8s (l : List UInt8) : List Value := l.map fun b => Value.int .u8 (b.toNat : Int)
theorem info_b8 : (Tryd.prog.info? 5).map (fun i => (i.zero, i.size, i.bytes)) = some (some (.int .u8 0), 1, 1) := by kernel_rfl
theorem le8_at (n k : Nat) (hk : k < 8) : (le8 n).take (k + 1) = (le8 n).take k ++ [UInt8.ofNat (n / 256 ^ k)] := by
  rcases k with _ | _ | _ | _ | _ | _ | _ | _ | k <;> first | (exfalso; omega) | simp [le8]
theorem one_cell_new (w : World) (t : TypeId) (x : Value) : ∀ j u, [x][j]? = some u → (w.alloc (.cells #[x] t)).cell? ((⟨w.heap.size, 0, none⟩ : Addr).add j) = some u := by
  intro j u hu
  have hadd : (⟨w.heap.size, 0, none⟩ : Addr).add j = ⟨w.heap.size, j, none⟩ := by unfold Addr.add; split <;> simp_all
  rw [hadd]
  have hb : (w.alloc (.cells #[x] t)).heap[w.heap.size]? = some (.cells #[x] t (0, 0)) := Array.getElem?_push_size
  rw [Lib.cell_of_heap hb j]
  simpa using hu
theorem own1_below {w w' : World} {B : Nat} {t : TypeId} {v : Value} {n : Nat} {xs : List Value} (h : w.ownsRow B t 1 v n xs) (hb : Below w.heap.size w w') : w'.ownsRow B t 1 v n xs :=
  h.kept (row := none) ⟨hb.os, hb.tape, hb.output, hb.size, fun k hk _ => hb.block k hk⟩ (by cases hv : v.ownBlock <;> simp)
theorem conv_b8s {w : World} {base : Nat} {x : Value} {l : List UInt8} (h : w.ownsRow base 5 1 x l.length (b8s l)) : (convert 38 9 x).run Tryd.prog w = .ok (.string ⟨l.toArray⟩) w := by
  rcases h.2 with ⟨rfl, h0⟩ | ⟨g, cap, cur, rfl, _⟩
  · have hl : l = [] := List.eq_nil_of_length_eq_zero h0
    subst hl
    rw [run_convert_bytes_string w 38 9 5 none 0 0 Tryd.underlying38 Tryd.underlying5 Tryd.underlying9]
    simp [Conv.bytesToString]
    rfl
  · exact run_convert_bytes_back w 38 9 5 ⟨g, 0, none⟩ cap l Tryd.underlying38 Tryd.underlying5 Tryd.underlying9 (fun j hj => h.cells (g := g) rfl j _ (by simp [b8s, hj]))
theorem frame_len (l : List UInt8) : (frameB l).length = l.length + 12 := by
  unfold frameB
  rw [List.length_append, List.length_append]
  have : (hd4 l.length).length = 4 := rfl
  have : (le8 (crc (hd4 l.length ++ l))).length = 8 := rfl
  omega
theorem hd4_told (l : List UInt8) (h : 4 ≤ l.length) : l.take 4 = hd4 (told l) := by
  match l, h with
  | a :: b :: c :: d :: r, _ =>
    have := a.toNat_lt; have := b.toNat_lt; have := c.toNat_lt; have := d.toNat_lt
    show [a, b, c, d] = hd4 (num4 a b c d)
    unfold hd4 num4
    congr 1
    · apply UInt8.toNat_inj.1; simp only [UInt8.toNat_ofNat']; omega
    · congr 1
      · apply UInt8.toNat_inj.1; simp only [UInt8.toNat_ofNat']; omega
      · congr 1
        · apply UInt8.toNat_inj.1; simp only [UInt8.toNat_ofNat']; omega
        · congr 1
          apply UInt8.toNat_inj.1; simp only [UInt8.toNat_ofNat']; omega
theorem frame_whole (l : List UInt8) (h : told l + 12 ≤ l.length) : frameB ((l.drop 4).take (told l)) = l.take (told l + 12) ↔ wholeB l (told l) = true := by
  have hl : ((l.drop 4).take (told l)).length = told l := by rw [List.length_take, List.length_drop]; omega
  have e1 : hd4 (told l) ++ (l.drop 4).take (told l) = l.take (4 + told l) := by
    rw [← hd4_told l (by omega), ← List.take_add]
  have e2 : l.take (told l + 12) = l.take (4 + told l) ++ (l.drop (4 + told l)).take 8 := by
    rw [← List.take_add]; congr 1; omega
  unfold frameB wholeB
  rw [hl, e1, e2, decide_eq_true_eq]
  constructor
  · intro e; exact (List.append_cancel_left e).symm
  · intro e; rw [e]
theorem told_lt (l : List UInt8) : told l < 4294967296 := by
  unfold told num4
  have a := (l.getD 0 0).toNat_lt
  have b := (l.getD 1 0).toNat_lt
  have c := (l.getD 2 0).toNat_lt
  have d := (l.getD 3 0).toNat_lt
  omega
end Go.Proofs.YtfoejfneggcncabDoor
