/- A disk's map, whatever there is: looked up, counted, written, struck; why a use can't be. -/
import Derived.Test.YtmepanbfknmieaaDisk9
namespace Go.Proofs.Ytmepanbfknmieaa
open Go.RowKit Go.Maps
attribute [local go_sem ↓] Go.wp_at_zero Go.wp_at_succ
def zraw : FRaw := (none, 0, 0, 0)
set_option maxRecDepth 100000 in
theorem look_files {w : World} {mb : Option Nat} {fs : List FEnt} (h : FilesAt w mb fs) (s : ByteArray) (hs : s.size ≤ maxLen) :
    (Instr.lookup 65 (.map mb) (.string s) false).run Try.prog w = .ok (fileV ((fget fs s.data.toList).getD zraw)) w := by
  rcases h with ⟨rfl, rfl⟩ | ⟨m, rfl, hown⟩
  · exact Maps.look_nil (w := w) false str_law Try.underlying65 (zero_file w) (key_str s hs)
  · obtain ⟨v, ps, hrun, hv⟩ := hown.lookup str_law Try.underlying65 (zero_file w) (fileR_mk (none, 0, 0, 0)) (key_str s hs)
    rw [toD_at] at hv
    obtain ⟨f, rfl, hfe⟩ := fileR_inv hv
    have hf2 : (fget fs s.data.toList).getD (none, 0, 0, 0) = f := by
      have := congrArg Prod.fst hfe
      injection this
    rw [hrun, ← hf2]; rfl
set_option maxRecDepth 100000 in
theorem look_files_ok {w : World} {mb : Option Nat} {fs : List FEnt} (h : FilesAt w mb fs) (s : ByteArray) (hs : s.size ≤ maxLen) :
    (Instr.lookup 65 (.map mb) (.string s) true).run Try.prog w = .ok (.tuple #[fileV ((fget fs s.data.toList).getD zraw), .bool (fget fs s.data.toList).isSome]) w := by
  rcases h with ⟨rfl, rfl⟩ | ⟨m, rfl, hown⟩
  · exact Maps.look_nil (w := w) true str_law Try.underlying65 (zero_file w) (key_str s hs)
  · obtain ⟨v, ps, hrun, hv⟩ := hown.look_ok str_law Try.underlying65 (zero_file w) (fileR_mk (none, 0, 0, 0)) (key_str s hs)
    rw [toD_at] at hv
    rw [toD_has] at hrun
    obtain ⟨f, rfl, hfe⟩ := fileR_inv hv
    have hf2 : (fget fs s.data.toList).getD (none, 0, 0, 0) = f := by
      have := congrArg Prod.fst hfe
      injection this
    rw [hrun, ← hf2]; rfl
set_option maxRecDepth 100000 in
theorem len_files {w : World} {mb : Option Nat} {fs : List FEnt} (h : FilesAt w mb fs) (ty : TypeId) :
    (Builtin.len_ #[65] ty #[.map mb]).run Try.prog w = .ok (.int .i64 (fs.length : Int)) w := by
  rcases h with ⟨rfl, rfl⟩ | ⟨m, rfl, hown⟩
  · exact Maps.len_nil (w := w) Try.underlying65 ty
  · rw [hown.len Try.underlying65 ty, toD_size]
set_option maxRecDepth 100000 in
theorem upd_files {w : World} {m : Nat} {fs : List FEnt} (h : FilesAt w (some m) fs) (hl : fs.length < maxLen) (s : ByteArray) (hs : s.size ≤ maxLen) (f : FRaw) :
    ∃ w', (Instr.mapUpdate 65 (.map (some m)) (.string s) (fileV f)).run Try.prog w = .ok () w' ∧ FilesAt w' (some m) (fput fs s.data.toList f) ∧ Chg (· = m) w w' := by
  rcases h with ⟨h, _⟩ | ⟨m', hm, hown⟩
  · cases h
  · injection hm with hm
    subst hm
    obtain ⟨w', hrun, r1, r2⟩ := hown.update str_law Try.underlying65 hl (key_str s hs) (fileR_mk f)
    rw [toD_put] at r1
    have r3 := own_tight r1
    rw [toD_size] at r3
    exact ⟨w', hrun, .inr ⟨m, rfl, r3⟩, (Chg.refl _ w).grown r2 (fun k hk => .inr (by injection hk with hk; exact hk.symm))⟩
set_option maxRecDepth 100000 in
theorem drop_files {w : World} {mb : Option Nat} {fs : List FEnt} (h : FilesAt w mb fs) (s : ByteArray) (hs : s.size ≤ maxLen) (ty : TypeId) :
    ∃ w', (Builtin.delete_ #[65, 9] ty #[.map mb, .string s]).run Try.prog w = .ok (.tuple #[]) w' ∧ FilesAt w' mb (fdel fs s.data.toList) ∧ Chg (fun k => mb = some k) w w' := by
  rcases h with ⟨rfl, rfl⟩ | ⟨m, rfl, hown⟩
  · exact ⟨w, Maps.drop_nil (w := w) str_law Try.underlying65 (key_str s hs) ty, .inl ⟨rfl, rfl⟩, Chg.refl _ _⟩
  · obtain ⟨w', hrun, r1, r2⟩ := hown.drop str_law Try.underlying65 (key_str s hs) ty
    rw [toD_del] at r1
    have r3 := own_tight r1
    rw [toD_size] at r3
    exact ⟨w', hrun, .inr ⟨m, rfl, r3⟩, (Chg.refl _ w).grown r2.grown (fun k hk => .inr hk)⟩
/-- What a use of some names is answered, ahead of all else. -/
def askM (M : DM) (ss : List ByteArray) : Int := if (useM M).2 = false then 7 else if ss.all mayB = true then 0 else 1
set_option maxRecDepth 100000 in
theorem DskIn.ask {w : World} {b : Nat} {S : Nat → Prop} {M : DM} {mb : Option Nat} {L : List (List UInt8 × FX)} (h : DskIn w b S M mb L) (a : Option Addr) (m c : Nat) (ss : List ByteArray) (hl : ss.length = m) (hm : m ≤ 1048576) (hsz : ∀ s ∈ ss, s.size ≤ 281474976710656) (hz : Texts w a ss) (hab : ss ≠ [] → ∀ x, a = some x → x.block ≠ b) :
    Calls Try.prog 41 #[.pointer (some ⟨b, 0, none⟩), .slice a m c] w fun e w' => e = .returned (.int .i64 (askM M ss)) ∧ DskIn w' b S (useM M).1 mb L ∧ Chg (· = b) w w' := by
  have HU := Lib.hid h.use
  have HZ := Lib.hid hz
  have HL := Lib.hid hl
  have HS := Lib.hid hsz
  have HAB := Lib.hid hab
  obtain ⟨R, hR⟩ : ∃ R, R = askM M ss := ⟨_, rfl⟩
  rw [← hR]
  unfold askM at hR
  obtain ⟨u, hu⟩ : ∃ u, u = (useM M).2 := ⟨_, rfl⟩
  rw [← hu] at HU hR
  obtain ⟨t, ht⟩ : ∃ t, t = ss.all mayB := ⟨_, rfl⟩
  rw [← ht] at hR
  have HT := Lib.hid ht
  clear h hz hl hsz hab hu ht
  go_enter Try.func41, Try.ntmps41
  cases u with
  | false =>
    have HR := Lib.hid (show R = 7 by rw [hR]; rfl)
    clear hR
    go_wp2_with fail
    refine HU.out.mono ?_
    rintro e w1 ⟨rfl, h1, hc⟩
    have H1 := Lib.hid h1
    have HC := Lib.hid hc
    clear h1 hc
    go_wp2
    go_ret
    exact ⟨by rw [HR.out]; rfl, H1.out, HC.out⟩
  | true =>
    go_wp2_with fail
    refine HU.out.mono ?_
    rintro e w1 ⟨rfl, h1, hc⟩
    have hn := named_all a m c ss w1 HL.out hm HS.out (HZ.out.chg hc HAB.out)
    rw [← HT.out] at hn
    have HN := Lib.hid hn
    have H1 := Lib.hid h1
    have HC := Lib.hid hc
    clear h1 hc hn
    cases t with
    | false =>
      have HR := Lib.hid (show R = 1 by rw [hR]; rfl)
      clear hR
      go_wp2_with fail
      refine HN.out.mono ?_
      rintro e w2 ⟨rfl, hE⟩
      subst hE
      go_wp2
      go_ret
      exact ⟨by rw [HR.out]; rfl, H1.out, HC.out⟩
    | true =>
      have HR := Lib.hid (show R = 0 by rw [hR]; rfl)
      clear hR
      go_wp2_with fail
      refine HN.out.mono ?_
      rintro e w2 ⟨rfl, hE⟩
      subst hE
      go_wp2
      go_ret
      exact ⟨by rw [HR.out]; rfl, H1.out, HC.out⟩
end Go.Proofs.Ytmepanbfknmieaa
