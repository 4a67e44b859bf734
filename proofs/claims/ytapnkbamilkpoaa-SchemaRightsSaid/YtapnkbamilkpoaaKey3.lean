/- Contract of Key. -/
import Derived.Test.YtapnkbamilkpoaaKey2
import Derived.Laws.IdiomStrings
namespace Go.Proofs.Ytapnkbamilkpoaa
open Go.RowKit
def vkeys (vs : List Val) : List UInt8 := vs.flatMap vkey
theorem vkeys_snoc (vs : List Val) (v : Val) : vkeys (vs ++ [v]) = vkeys vs ++ vkey v := by simp [vkeys]
theorem vkeys_len (vs : List Val) (h : vs.all vright = true) : (vkeys vs).length ≤ 410 * vs.length := by
  induction vs with
  | nil => simp [vkeys]
  | cons v r ih =>
    simp only [List.all_cons, Bool.and_eq_true] at h
    have h1 := vkey_len v
    have h2 : v.2.2.size ≤ 200 := by
      rcases right_kinds h.1 with ⟨_, h'⟩ | ⟨_, _, h'⟩ | ⟨_, _, h'⟩
      · rw [h']; decide
      · exact h'
      · rw [h']; decide
    have h3 := ih h.2
    have e : vkeys (v :: r) = vkey v ++ vkeys r := by simp [vkeys]
    rw [e, List.length_append, List.length_cons]
    omega
/-- The key of a row: of one that isn't right: none. -/
def rowKey (vs : List Val) : List UInt8 := if vs.all vright then vkeys vs else []
theorem conv_own {w : World} {base : Nat} {x : Value} {l : List UInt8} (h : w.ownsRow base 5 1 x l.length (u8s l)) : (convert 91 9 x).run Try.prog w = .ok (.string ⟨l.toArray⟩) w := by
  rcases h.2 with ⟨rfl, h0⟩ | ⟨g, cap, cur, rfl, _⟩
  · have hl : l = [] := List.eq_nil_of_length_eq_zero h0
    subst hl
    rw [run_convert_bytes_string w 91 9 5 none 0 0 Try.underlying91 Try.underlying5 Try.underlying9]
    simp [Conv.bytesToString]
    rfl
  · exact run_convert_bytes_back w 91 9 5 ⟨g, 0, none⟩ cap l Try.underlying91 Try.underlying5 Try.underlying9 (fun j hj => h.cells (g := g) rfl j _ (by simp [u8s, hj]))
set_option maxRecDepth 100000 in
set_option maxHeartbeats 1000000 in
theorem key_any (a : Option Addr) (m c : Nat) (vs : List Val) (w : World) (hl : vs.length = m) (hm : m ≤ 2000) (hv : Vals w a vs) (hok : ValsOk vs) :
    Calls Try.prog 65 #[.slice a m c] w fun e w' => e = .returned (.string ⟨(rowKey vs).toArray⟩) ∧ Below w.heap.size w w' := by
  obtain ⟨r, hr⟩ : ∃ r, r = rowKey vs := ⟨_, rfl⟩
  rw [← hr]
  have HR := Lib.hid hr
  clear hr
  go_enter Try.func65, Try.ntmps65
  go_wp2_with fail
  refine (right_all a m c vs _ hl (by omega) hv).mono ?_
  rintro e w1 ⟨rfl, hb1⟩
  have hv1 := hv.below hb1
  have hsz1 := hb1.size
  have HL := Lib.hid hl
  clear hl hv
  cases hall : vs.all vright with
  | false =>
    have hr : r = [] := by rw [HR.out]; unfold rowKey; rw [hall]; rfl
    have H := Lib.hid hr
    clear hr hall
    go_wp2
    go_ret
    exact ⟨by rw [H.out]; rfl, hb1⟩
  | true =>
    have hr : r = vkeys vs := by rw [HR.out]; unfold rowKey; rw [hall]; rfl
    have H := Lib.hid hr
    have HA := Lib.hid hall
    have HOK := Lib.hid hok
    clear hr hall hok
    go_wp2
    go_loopw [3, 11] (fun x i wr => ∃ k : Nat, k ≤ m ∧ i = .int .i64 (k : Int) ∧ Grown8 w1 w1.heap.size (.slice none 0 0) (vkeys (vs.take k)) x wr) (fun _ i _ => m - (intOf i).toNat)
    case atStart => exact ⟨0, Nat.zero_le _, rfl, by simpa [vkeys] using Grown8.refl (World.ownsRow_nil _ _ _ _)⟩
    case round =>
      obtain ⟨k, hk, rfl, hg⟩ := hrel
      have hszr := hg.2.1.size
      have hbr : Below w1.heap.size w1 wr := hg.2.1.below (Nat.le_refl _) (fun j _ hs => by simp [Value.ownBlock] at hs)
      have hkl : (vkeys (vs.take k)).length ≤ 820000 := by
        have h1 := vkeys_len (vs.take k) (List.all_eq_true.2 fun x hx => List.all_eq_true.1 HA.out x (List.mem_of_mem_take hx))
        have h2 : (vs.take k).length ≤ k := List.length_take_le _ _
        omega
      have hG1 := hg.1
      by_cases hlt : k < m
      · have hlt' : decide ((k : Int) < (m : Int)) = true := decide_eq_true (by omega)
        rcases hv1 with hv | ⟨hne, b, o, rfl, hb, hz⟩
        · have := HL.out
          rw [hv] at this
          simp at this
          omega
        obtain ⟨v, hvk⟩ : ∃ v, vs[k]? = some v := ⟨_, List.getElem?_eq_getElem (by rw [HL.out]; exact hlt)⟩
        obtain ⟨z0, z1, z2⟩ := hz k v hvk
        have hmem : v ∈ vs := List.mem_of_getElem? hvk
        have hvr : vright v = true := List.all_eq_true.1 HA.out v hmem
        obtain ⟨_, ⟨hn0, hn1⟩, _⟩ := HOK.out v hmem
        have hts : vs.take (k + 1) = vs.take k ++ [v] := by
          rw [List.take_add_one, hvk]; rfl
        have c0 := (hbr.cell (p := ⟨b, o + k * 3, none⟩) hb).trans z0
        have c1 := (hbr.cell (p := ⟨b, o + k * 3 + 1, none⟩) hb).trans z1
        have c2 := (hbr.cell (p := ⟨b, o + k * 3 + 2, none⟩) hb).trans z2
        obtain ⟨L, hL⟩ : ∃ L, L = vkeys (vs.take k) := ⟨_, rfl⟩
        rw [← hL] at hg hG1 hkl
        have hLs : vkeys (vs.take (k + 1)) = L ++ vkey v := by rw [hts, vkeys_snoc, hL]
        have HV := Lib.hid hvr
        have HLS := Lib.hid hLs
        clear hz z0 z1 z2 hmem hvk hvr hts hL hLs
        go_wp2_with fail
        refine (key_app v HV.out hn0 hn1 _ L w1.heap.size _ (by omega) (by simp; omega) (hG1.alloc _)).mono ?_
        rintro e w2 ⟨x', rfl, hG2⟩
        have hF := Grown8.trans (hg.below ((Below.refl _ _).alloc (Nat.le_refl _) _)) hG2
        rw [← HLS.out] at hF
        clear hG2
        go_wp2
        go_roundw
        case rel => exact ⟨k + 1, by omega, by go_num, hF⟩
        case measure => simp [intOf]; omega
      · have hlt' : decide ((k : Int) < (m : Int)) = false := decide_eq_false (by omega)
        have e : vkeys (vs.take k) = r := by rw [H.out, List.take_of_length_le (by rw [HL.out]; omega)]
        rw [e] at hG1
        clear e
        have hcv := conv_own hG1
        go_wp2
        go_ret
        exact ⟨rfl, Below.thenB hb1 hsz1 hbr⟩
end Go.Proofs.Ytapnkbamilkpoaa
