/- A disk that holds files: one word for all of it. -/
import Derived.Test.YtmepanbfknmieaaDM
import Derived.Test.YtmepanbfknmieaaDisk8
import Derived.Test.YtmepanbfknmieaaDNamed
import Derived.Test.YtmepanbfknmieaaB8
import Derived.Test.YtmepanbfknmieaaDApp
namespace Go.Proofs.Ytmepanbfknmieaa
open Go.RowKit Go.Maps
/-- A file as it lies, with its bytes. -/
structure FX where
  adr : Option Addr
  cap : Nat
  data : List UInt8
  kept : Nat
abbrev FX.raw (x : FX) : FRaw := (x.adr, x.data.length, x.cap, (x.kept : Int))
abbrev FX.row (x : FX) : Value := .slice x.adr x.data.length x.cap
/-- A file, as the document has it: its bytes, how many are kept. -/
abbrev MF := List UInt8 × Nat
abbrev FX.mf (x : FX) : MF := (x.data, x.kept)
/-- A disk, as the document has it. -/
structure DM where
  on : Bool
  uses : Int
  armed : Bool
  left : Int
  room : Int
  files : List (List UInt8 × MF)
def DM.dk (M : DM) (mb : Option Nat) : Dk := ⟨M.on, M.uses, M.armed, M.left, M.room, mb⟩
def FineF (room : Int) (fs : List (List UInt8 × MF)) : Prop := Rising fs ∧ fs.length ≤ 100 ∧ (∀ p ∈ fs, p.1.length ≤ 20 ∧ p.2.1.length ≤ 1048576 ∧ p.2.2 ≤ p.2.1.length) ∧ 0 ≤ room ∧ room ≤ 16777216
/-- How many bytes there are. -/
def totF (fs : List (List UInt8 × MF)) : Nat := totV (fun x : MF => x.1.length) fs
def FRow (w : World) (x : FX) : Prop := RowS w 5 x.row x.data.length (b8s x.data)
structure DskIn (w : World) (b : Nat) (S : Nat → Prop) (M : DM) (mb : Option Nat) (L : List (List UInt8 × FX)) : Prop where
  at_ : DAt w b (M.dk mb)
  map : FilesAt w mb (mapV FX.raw L)
  files : M.files = mapV FX.mf L
  fine : FineF M.room M.files
  rows : ∀ p ∈ L, FRow w p.2
  apart : ∀ p ∈ L, ∀ q ∈ L, p.1 ≠ q.1 → ∀ g, p.2.row.ownBlock = some g → q.2.row.ownBlock ≠ some g
  sb : S b
  sm : ∀ k, mb = some k → S k
  sr : ∀ p ∈ L, ∀ g, p.2.row.ownBlock = some g → S g
  lt : ∀ k, S k → k < w.heap.size
/-- The disk at b is as M; its blocks are among S. -/
def DskAt (w : World) (b : Nat) (S : Nat → Prop) (M : DM) : Prop := ∃ mb L, DskIn w b S M mb L
theorem ownsMap_chg {T : Nat → Prop} {w w' : World} {m n : Nat} {D : DataW FRaw} (h : w.ownsMap Try.prog 9 fileR m n D) (hc : Chg T w w') (hT : ¬ T m) : w'.ownsMap Try.prog 9 fileR m n D := by
  obtain ⟨es, clock, hb, rest⟩ := h
  exact ⟨es, clock, (hc.block m (Array.getElem?_eq_some_iff.1 hb).1 hT).trans hb, rest⟩
theorem filesAt_chg {T : Nat → Prop} {w w' : World} {mb : Option Nat} {fs : List FEnt} (h : FilesAt w mb fs) (hc : Chg T w w') (hT : ∀ k, mb = some k → ¬ T k) : FilesAt w' mb fs := by
  rcases h with h | ⟨m, hm, h⟩
  · exact .inl h
  · exact .inr ⟨m, hm, ownsMap_chg h hc (hT m hm)⟩
theorem frow_chg {T : Nat → Prop} {w w' : World} {x : FX} (h : FRow w x) (hc : Chg T w w') (hT : ∀ g, x.row.ownBlock = some g → ¬ T g) : FRow w' x := by
  exact RowS.chg h hc hT
theorem dat_chg {T : Nat → Prop} {w w' : World} {b : Nat} {D : Dk} (h : DAt w b D) (hc : Chg T w w') (hT : ¬ T b) : DAt w' b D := World.rowIs.of_block h (hc.block b h.lt hT)
theorem conv_rows {w : World} {x : Value} {l : List UInt8} (h : RowS w 5 x l.length (b8s l)) : (convert 57 9 x).run Try.prog w = .ok (.string ⟨l.toArray⟩) w := by
  rcases h.2 with ⟨rfl, h0⟩ | ⟨g, cap, cur, fz, rfl, _⟩
  · have hl : l = [] := List.eq_nil_of_length_eq_zero h0
    subst hl
    rw [run_convert_bytes_string w 57 9 5 none 0 0 Try.underlying57 Try.underlying5 Try.underlying9]
    simp [Conv.bytesToString]
    rfl
  · exact run_convert_bytes_back w 57 9 5 ⟨g, 0, none⟩ cap l Try.underlying57 Try.underlying5 Try.underlying9 (fun j hj => h.cells (g := g) rfl j _ (by simp [b8s, hj]))
theorem DskIn.chg {T : Nat → Prop} {w w' : World} {b : Nat} {S : Nat → Prop} {M : DM} {mb : Option Nat} {L : List (List UInt8 × FX)} (h : DskIn w b S M mb L) (hc : Chg T w w') (hT : ∀ k, S k → ¬ T k) : DskIn w' b S M mb L :=
  ⟨dat_chg h.at_ hc (hT b h.sb), filesAt_chg h.map hc (fun k hk => hT k (h.sm k hk)), h.files, h.fine, fun p hp => frow_chg (h.rows p hp) hc (fun g hg => hT g (h.sr p hp g hg)), h.apart, h.sb, h.sm, h.sr, fun k hk => Nat.lt_of_lt_of_le (h.lt k hk) hc.size⟩
theorem DskIn.below {w w' : World} {b : Nat} {S : Nat → Prop} {M : DM} {mb : Option Nat} {L : List (List UInt8 × FX)} (h : DskIn w b S M mb L) (hb : Below w.heap.size w w') : DskIn w' b S M mb L := h.chg (T := fun _ => False) (Chg.ofBelow hb) (fun _ _ f => f)
theorem DskAt.chg {T : Nat → Prop} {w w' : World} {b : Nat} {S : Nat → Prop} {M : DM} (h : DskAt w b S M) (hc : Chg T w w') (hT : ∀ k, S k → ¬ T k) : DskAt w' b S M := by
  obtain ⟨mb, L, h⟩ := h
  exact ⟨mb, L, h.chg hc hT⟩
theorem DskAt.below {w w' : World} {b : Nat} {S : Nat → Prop} {M : DM} (h : DskAt w b S M) (hb : Below w.heap.size w w') : DskAt w' b S M := h.chg (T := fun _ => False) (Chg.ofBelow hb) (fun _ _ f => f)
theorem DskIn.mb_ne {w : World} {b : Nat} {S : Nat → Prop} {M : DM} {mb : Option Nat} {L : List (List UInt8 × FX)} (h : DskIn w b S M mb L) : mb ≠ some b := by
  rintro rfl
  rcases h.map with ⟨hm, _⟩ | ⟨m, hm, es, clock, hes, _⟩
  · cases hm
  · injection hm with hm
    subst hm
    obtain ⟨cs, hcs, _⟩ := h.at_
    rw [hcs] at hes; cases hes
theorem frow_block {w : World} {x : FX} (h : FRow w x) {g : Nat} (hg : x.row.ownBlock = some g) : ∃ cur fz, w.heap[g]? = some (.cells cur 5 fz) := by
  rcases h.2 with ⟨hv, _⟩ | ⟨g', cap, cur, fz, hv, hgg, _⟩
  · rw [hv] at hg; cases hg
  · rw [hv] at hg
    injection hg with hg
    subst hg
    exact ⟨cur, fz, hgg⟩
theorem DskIn.row_ne {w : World} {b : Nat} {S : Nat → Prop} {M : DM} {mb : Option Nat} {L : List (List UInt8 × FX)} (h : DskIn w b S M mb L) {p : List UInt8 × FX} (hp : p ∈ L) : p.2.row.ownBlock ≠ some b := by
  intro e
  obtain ⟨cur, fz, hb⟩ := frow_block (h.rows p hp) e
  obtain ⟨cs, hcs, _⟩ := h.at_
  rw [hcs] at hb
  injection hb with hb
  injection hb with _ hb
  exact absurd hb (by decide)
theorem DskIn.row_mb {w : World} {b : Nat} {S : Nat → Prop} {M : DM} {mb : Option Nat} {L : List (List UInt8 × FX)} (h : DskIn w b S M mb L) {p : List UInt8 × FX} (hp : p ∈ L) {g : Nat} (hg : p.2.row.ownBlock = some g) : mb ≠ some g := by
  rintro rfl
  obtain ⟨cur, fz, hb⟩ := frow_block (h.rows p hp) hg
  rcases h.map with ⟨hm, _⟩ | ⟨m, hm, es, clock, hes, _⟩
  · cases hm
  · injection hm with hm
    subst hm
    rw [hes] at hb; cases hb
/-- Its power alone has turned. -/
theorem DskIn.turn {w w' : World} {b : Nat} {S : Nat → Prop} {M M' : DM} {mb : Option Nat} {L : List (List UInt8 × FX)} (h : DskIn w b S M mb L) (hd : DAt w' b (M'.dk mb)) (hc : Chg (· = b) w w') (hf : M'.files = M.files) (hr : M'.room = M.room) : DskIn w' b S M' mb L :=
  ⟨hd, filesAt_chg h.map hc (fun k hk e => h.mb_ne (by rw [hk, e])), hf.trans h.files, by rw [hf, hr]; exact h.fine, fun p hp => frow_chg (h.rows p hp) hc (fun g hg e => h.row_ne hp (by rw [hg, e])), h.apart, h.sb, h.sm, h.sr, fun k hk => Nat.lt_of_lt_of_le (h.lt k hk) hc.size⟩
theorem usedF_tot (L : List (List UInt8 × FX)) : usedF (mapV FX.raw L) = (totF (mapV FX.mf L) : Int) := by
  unfold usedF totF
  rw [totV_mapV]
  unfold totV mapV
  induction L with
  | nil => rfl
  | cons p r ih =>
    simp only [List.map_cons, List.sum_cons, ih]
    rw [Int.natCast_add]
theorem totV_le {β : Type} {m : β → Nat} {L : List (List UInt8 × β)} {c : Nat} (h : ∀ p ∈ L, m p.2 ≤ c) : totV m L ≤ L.length * c := by
  unfold totV
  induction L with
  | nil => simp
  | cons p r ih =>
    have h1 := h p (by simp)
    have h2 := ih fun q hq => h q (List.mem_cons_of_mem _ hq)
    rw [List.map_cons, List.sum_cons, List.length_cons, Nat.add_mul, Nat.one_mul]
    omega
theorem FineF.tot {room : Int} {fs : List (List UInt8 × MF)} (h : FineF room fs) : totF fs ≤ 104857600 := by
  have := totV_le (m := fun x : MF => x.1.length) (L := fs) (c := 1048576) (fun p hp => (h.2.2.1 p hp).2.1)
  have h2 := h.2.1
  unfold totF
  have : fs.length * 1048576 ≤ 100 * 1048576 := Nat.mul_le_mul_right _ h2
  omega
theorem DskIn.used {w : World} {b : Nat} {S : Nat → Prop} {M : DM} {mb : Option Nat} {L : List (List UInt8 × FX)} (h : DskIn w b S M mb L) : usedF (mapV FX.raw L) = (totF M.files : Int) := by rw [usedF_tot, h.files]
theorem DskIn.rising {w : World} {b : Nat} {S : Nat → Prop} {M : DM} {mb : Option Nat} {L : List (List UInt8 × FX)} (h : DskIn w b S M mb L) : Rising L := rising_mapV.1 (by rw [← h.files]; exact h.fine.1)
theorem DskIn.nodup {w : World} {b : Nat} {S : Nat → Prop} {M : DM} {mb : Option Nat} {L : List (List UInt8 × FX)} (h : DskIn w b S M mb L) : ((mapV FX.raw L).map (·.1)).Nodup := by
  rw [mapV_keys]; exact rising_nodup h.rising
theorem dk_used {w : World} {b : Nat} {S : Nat → Prop} {M : DM} (h : DskAt w b S M) : Calls Try.prog 26 #[.pointer (some ⟨b, 0, none⟩)] w fun e w' => e = .returned (.int .i64 (totF M.files : Int)) ∧ Below w.heap.size w w' := by
  obtain ⟨mb, L, h⟩ := h
  have ht := h.fine.tot
  rw [← h.used]
  exact Used_any b _ _ w h.at_ h.map h.nodup (by rw [h.used]; omega)
theorem dk_free {w : World} {b : Nat} {S : Nat → Prop} {M : DM} (h : DskAt w b S M) : Calls Try.prog 31 #[.pointer (some ⟨b, 0, none⟩)] w fun e w' => e = .returned (.int .i64 (M.room - (totF M.files : Int))) ∧ Below w.heap.size w w' := by
  obtain ⟨mb, L, h⟩ := h
  have ht := h.fine.tot
  rw [← h.used]
  exact Free_any b _ _ w h.at_ h.map h.nodup (by rw [h.used]; omega) h.fine.2.2.2
theorem dk_on {w : World} {b : Nat} {S : Nat → Prop} {M : DM} (h : DskAt w b S M) : Calls Try.prog 29 #[.pointer (some ⟨b, 0, none⟩)] w fun e w' => e = .returned (.bool M.on) ∧ w = w' := by
  obtain ⟨mb, L, h⟩ := h
  exact don_any b _ w h.at_
theorem dk_uses {w : World} {b : Nat} {S : Nat → Prop} {M : DM} (h : DskAt w b S M) : Calls Try.prog 30 #[.pointer (some ⟨b, 0, none⟩)] w fun e w' => e = .returned (.int .i64 M.uses) ∧ w = w' := by
  obtain ⟨mb, L, h⟩ := h
  exact duses_any b _ w h.at_
def keptM (fs : List (List UInt8 × MF)) (k : List UInt8) : Int := match fget fs k with | some x => (x.2 : Int) | none => 0
theorem dk_kept {w : World} {b : Nat} {S : Nat → Prop} {M : DM} (h : DskAt w b S M) (s : ByteArray) (hs : s.size ≤ maxLen) : Calls Try.prog 32 #[.pointer (some ⟨b, 0, none⟩), .string s] w fun e w' => e = .returned (.int .i64 (keptM M.files s.data.toList)) ∧ w = w' := by
  obtain ⟨mb, L, h⟩ := h
  have e : keptOf (fget (mapV FX.raw L) s.data.toList) = keptM M.files s.data.toList := by
    unfold keptM
    rw [h.files, mapV_get, mapV_get]
    cases fget L s.data.toList <;> rfl
  rw [← e]
  exact Kept_any b _ _ s w hs h.at_ h.map
/-- A use of the power. -/
def useM (M : DM) : DM × Bool :=
  if M.on = false then (M, false)
  else if M.armed = false then ({ M with uses := wrap64 (M.uses + 1) }, true)
  else ({ M with uses := wrap64 (M.uses + 1), on := decide (0 < M.left), left := wrap64 (M.left - 1) }, decide (0 < M.left))
theorem useM_dk (M : DM) (mb : Option Nat) : useD (M.dk mb) = ((useM M).1.dk mb, (useM M).2) := by
  unfold useD useM DM.dk
  simp only
  split
  · rfl
  · split <;> rfl
theorem useM_files (M : DM) : (useM M).1.files = M.files ∧ (useM M).1.room = M.room := by
  unfold useM
  split
  · exact ⟨rfl, rfl⟩
  · split <;> exact ⟨rfl, rfl⟩
theorem DskIn.use {w : World} {b : Nat} {S : Nat → Prop} {M : DM} {mb : Option Nat} {L : List (List UInt8 × FX)} (h : DskIn w b S M mb L) : Calls Try.prog 51 #[.pointer (some ⟨b, 0, none⟩)] w fun e w' => e = .returned (.bool (useM M).2) ∧ DskIn w' b S (useM M).1 mb L ∧ Chg (· = b) w w' := by
  refine (puse_any b (M.dk mb) w h.at_).mono ?_
  rintro e w' ⟨rfl, hd, hc⟩
  rw [useM_dk] at hd ⊢
  exact ⟨rfl, h.turn hd hc (useM_files M).1 (useM_files M).2, hc⟩
end Go.Proofs.Ytmepanbfknmieaa
