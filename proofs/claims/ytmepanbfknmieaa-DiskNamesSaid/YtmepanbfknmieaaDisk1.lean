/- Contracts of disk: the power; New; Kept. -/
import Derived.Test.YtmepanbfknmieaaDMap
import Derived.Test.YtmepanbfknmieaaSix
import Derived.ProofKit
namespace Go.Proofs.Ytmepanbfknmieaa
open Go.RowKit Go.Maps Go.ChangeMaps Go.WideMaps
/-- A disk, as it lies. -/
structure Dk where
  on : Bool
  uses : Int
  armed : Bool
  left : Int
  room : Int
  mb : Option Nat
def DAt (w : World) (b : Nat) (D : Dk) : Prop := w.rowIs b 67 6 (six6 (.bool D.on) (.int .i64 D.uses) (.bool D.armed) (.int .i64 D.left) (.int .i64 D.room) (.map D.mb))
theorem pon_any (b : Nat) (D : Dk) (w : World) (h : DAt w b D) : Calls Try.prog 33 #[.pointer (some ⟨b, 0, none⟩)] w fun e w' => e = .returned (.bool D.on) ∧ w = w' := by
  obtain ⟨on, uses, armed, left, room, mb⟩ := D
  obtain ⟨⟨c0, c1, c2, c3, c4, c5⟩, _⟩ := six6_cells h
  simp only [] at c0 c1 c2 c3 c4 c5
  clear h
  go_enter Try.func33, Try.ntmps33
  go_wp2
  go_ret
  exact ⟨rfl, rfl⟩
theorem don_any (b : Nat) (D : Dk) (w : World) (h : DAt w b D) : Calls Try.prog 29 #[.pointer (some ⟨b, 0, none⟩)] w fun e w' => e = .returned (.bool D.on) ∧ w = w' := by
  have HP := Lib.hid (pon_any b D w h)
  generalize D.on = r at HP ⊢
  clear h
  go_enter Try.func29, Try.ntmps29
  go_wp2_with fail
  refine HP.out.mono ?_
  rintro e w1 ⟨rfl, hE⟩
  subst hE
  go_wp2
  go_ret
  exact ⟨rfl, rfl⟩
set_option maxRecDepth 100000 in
theorem file_kept (a : Option Addr) (n c : Nat) (k : Int) (w : World) : (Instr.field 72 (.agg #[.slice a n c, .int .i64 k]) 1).run Try.prog w = .ok (.int .i64 k) w := by rfl
def keptOf : Option FRaw → Int
  | some f => f.2.2.2
  | none => 0
set_option maxRecDepth 100000 in
set_option maxHeartbeats 1000000 in
theorem Kept_any (b : Nat) (D : Dk) (fs : List FEnt) (s : ByteArray) (w : World) (hs : s.size ≤ maxLen) (h : DAt w b D) (hf : FilesAt w D.mb fs) :
    Calls Try.prog 32 #[.pointer (some ⟨b, 0, none⟩), .string s] w fun e w' => e = .returned (.int .i64 (keptOf (fget fs s.data.toList))) ∧ w = w' := by
  obtain ⟨on, uses, armed, left, room, mb⟩ := D
  obtain ⟨⟨c0, c1, c2, c3, c4, c5⟩, _⟩ := six6_cells h
  simp only [] at c0 c1 c2 c3 c4 c5 hf
  clear h
  have hz := zero_file w
  rcases hf with ⟨rfl, rfl⟩ | ⟨m, rfl, hown⟩
  · have hz2 : fileV (none, 0, 0, 0) = .agg #[.slice none 0 0, .int .i64 0] := rfl
    rw [hz2] at hz
    have hrun := Maps.look_nil (w := w) false str_law Try.underlying65 hz (key_str s hs)
    have hfk := fun w => file_kept none 0 0 0 w
    go_enter Try.func32, Try.ntmps32
    go_wp2
    go_ret
    exact ⟨rfl, rfl⟩
  · obtain ⟨v, ps, hrun, hv⟩ := hown.lookup str_law Try.underlying65 hz (fileR_mk (none, 0, 0, 0)) (key_str s hs)
    rw [toD_at] at hv
    obtain ⟨f, rfl, hfe⟩ := fileR_inv hv
    have hf2 : (fget fs s.data.toList).getD (none, 0, 0, 0) = f := by
      have := congrArg Prod.fst hfe
      injection this
    have hk : keptOf (fget fs s.data.toList) = f.2.2.2 := by
      rw [← hf2]
      cases fget fs s.data.toList <;> rfl
    obtain ⟨fa, fn, fc, fk⟩ := f
    simp only [fileV] at hrun
    simp only [] at hk
    rw [hk]
    have hfk := fun w => file_kept fa fn fc fk w
    clear hv hfe hf2 hk hown hz
    go_enter Try.func32, Try.ntmps32
    go_wp2
    go_ret
    exact ⟨rfl, rfl⟩
end Go.Proofs.Ytmepanbfknmieaa
