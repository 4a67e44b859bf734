/- A disk whose file is laid: one word for it. Contract of lay, whatever there is. -/
import Derived.Test.YtmepanbfknmieaaDisk13
namespace Go.Proofs.Ytmepanbfknmieaa
open Go.RowKit Go.Maps
/-- The blocks of S, and new ones. -/
def Gro (S : Nat → Prop) (w w' : World) : Nat → Prop := fun g => S g ∨ (w.heap.size ≤ g ∧ g < w'.heap.size)
/-- What a call leaves: the disk at b is as M; nothing has changed but its blocks, and new ones. -/
def DOut (w w' : World) (b : Nat) (S : Nat → Prop) (M : DM) : Prop := DskAt w' b (Gro S w w') M ∧ Chg S w w'
theorem DskIn.mono {w : World} {b : Nat} {S S' : Nat → Prop} {M : DM} {mb : Option Nat} {L : List (List UInt8 × FX)} (h : DskIn w b S M mb L) (hS : ∀ k, S k → S' k) (hlt : ∀ k, S' k → k < w.heap.size) : DskIn w b S' M mb L :=
  ⟨h.at_, h.map, h.files, h.fine, h.rows, h.apart, hS b h.sb, fun k hk => hS k (h.sm k hk), fun p hp g hg => hS g (h.sr p hp g hg), hlt⟩
theorem DskAt.mono {w : World} {b : Nat} {S S' : Nat → Prop} {M : DM} (h : DskAt w b S M) (hS : ∀ k, S k → S' k) (hlt : ∀ k, S' k → k < w.heap.size) : DskAt w b S' M := by
  obtain ⟨mb, L, h⟩ := h
  exact ⟨mb, L, h.mono hS hlt⟩
theorem DskAt.slt {w : World} {b : Nat} {S : Nat → Prop} {M : DM} (h : DskAt w b S M) : ∀ k, S k → k < w.heap.size := by
  obtain ⟨mb, L, h⟩ := h
  exact h.lt
theorem DskAt.sb {w : World} {b : Nat} {S : Nat → Prop} {M : DM} (h : DskAt w b S M) : S b := by
  obtain ⟨mb, L, h⟩ := h
  exact h.sb
theorem gro_lt {S : Nat → Prop} {w w' : World} (hS : ∀ k, S k → k < w.heap.size) (hz : w.heap.size ≤ w'.heap.size) : ∀ k, Gro S w w' k → k < w'.heap.size := by
  rintro k (h | h)
  · exact Nat.lt_of_lt_of_le (hS k h) hz
  · exact h.2
theorem DOut.of {w w' : World} {b : Nat} {S : Nat → Prop} {M M' : DM} (h0 : DskAt w b S M) (h : DskAt w' b S M') (hc : Chg S w w') : DOut w w' b S M' :=
  ⟨h.mono (fun _ hk => .inl hk) (gro_lt h0.slt hc.size), hc⟩
theorem DOut.trans {w w1 w2 : World} {b : Nat} {S : Nat → Prop} {M1 M2 : DM} (hS : ∀ k, S k → k < w.heap.size) (h : DOut w w1 b S M1) (k : DOut w1 w2 b (Gro S w w1) M2) : DOut w w2 b S M2 := by
  have z1 := h.2.size
  have z2 := k.2.size
  refine ⟨k.1.mono ?_ (gro_lt hS (by omega)), ?_⟩
  · rintro g ((hg | hg) | hg)
    · exact .inl hg
    · exact .inr ⟨hg.1, by omega⟩
    · exact .inr ⟨by omega, hg.2⟩
  · refine ⟨k.2.os.trans h.2.os, k.2.tape.trans h.2.tape, k.2.output.trans h.2.output, by omega, fun g hg hs => ?_⟩
    rw [k.2.block g (by omega) (by rintro (x | x); exact hs x; omega)]
    exact h.2.block g hg hs
theorem DOut.thenB {w w1 w2 : World} {b : Nat} {S : Nat → Prop} {M : DM} (hS : ∀ k, S k → k < w.heap.size) (h : DOut w w1 b S M) (k : Below w1.heap.size w1 w2) : DOut w w2 b S M := by
  have hz := h.2.size
  have hz2 := k.size
  refine ⟨(h.1.below k).mono ?_ (gro_lt hS (by omega)), h.2.thenB k⟩
  rintro g (hg | hg)
  · exact .inl hg
  · exact .inr ⟨hg.1, by omega⟩
theorem DOut.ahead {w w1 w2 : World} {b : Nat} {S : Nat → Prop} {M : DM} (hS : ∀ k, S k → k < w.heap.size) (hc : Chg S w w1) (k : DOut w1 w2 b S M) : DOut w w2 b S M := by
  have z1 := hc.size
  have z2 := k.2.size
  refine ⟨k.1.mono ?_ (gro_lt hS (by omega)), hc.trans k.2⟩
  rintro g (hg | hg)
  · exact .inl hg
  · exact .inr ⟨by omega, hg.2⟩
theorem FineF.put {room : Int} {fs : List (List UInt8 × MF)} (h : FineF room fs) {k : List UInt8} {x : MF} (hk : k.length ≤ 20) (hd : x.1.length ≤ 1048576) (hx : x.2 ≤ x.1.length) (hl : fget fs k = none → fs.length < 100) : FineF room (fput fs k x) := by
  refine ⟨fput_rising h.1 _ _, ?_, ?_, h.2.2.2⟩
  · rw [fput_len h.1]
    have := h.2.1
    split
    · rename_i hn
      have := hl hn
      omega
    · exact this
  · intro p hp
    rcases mem_fput.1 hp with rfl | ⟨hp, _⟩
    · exact ⟨hk, hd, hx⟩
    · exact h.2.2.1 p hp
theorem FineF.del {room : Int} {fs : List (List UInt8 × MF)} (h : FineF room fs) (k : List UInt8) : FineF room (fdel fs k) := by
  refine ⟨fdel_rising h.1 _, Nat.le_trans (List.length_filter_le _ _) h.2.1, fun p hp => h.2.2.1 p (mem_fdel.1 hp).1, h.2.2.2⟩
/-- A file was laid. -/
theorem DskIn.put {w w' : World} {b : Nat} {S : Nat → Prop} {M M' : DM} {mb mb' : Option Nat} {L : List (List UInt8 × FX)} (h : DskIn w b S M mb L) (k : List UInt8) (x : FX)
    (hd : DAt w' b (M'.dk mb')) (hm : FilesAt w' mb' (fput (mapV FX.raw L) k x.raw)) (hmb : mb' = mb ∨ ∃ m, mb' = some m ∧ w.heap.size ≤ m ∧ m < w'.heap.size)
    (hc : Chg (fun g => g = b ∨ mb = some g ∨ ∃ y, fget L k = some y ∧ y.row.ownBlock = some g) w w')
    (hx : FRow w' x) (hxo : ∀ g, x.row.ownBlock = some g → w.heap.size ≤ g ∨ ∃ y, fget L k = some y ∧ y.row.ownBlock = some g)
    (hf : M'.files = fput M.files k x.mf) (hfine : FineF M'.room M'.files) : DOut w w' b S M' := by
  have hS : ∀ g, (g = b ∨ mb = some g ∨ ∃ y, fget L k = some y ∧ y.row.ownBlock = some g) → S g := by
    rintro g (rfl | hg | ⟨y, hy, hg⟩)
    · exact h.sb
    · exact h.sm g hg
    · exact h.sr _ (fget_mem hy) g hg
  have hxl : ∀ g, x.row.ownBlock = some g → g < w'.heap.size := fun g hg => RowS.lt hx g hg
  refine ⟨⟨mb', fput L k x, ⟨hd, by rw [← mapV_put]; exact hm, by rw [hf, h.files, mapV_put FX.mf], hfine, ?_, ?_, .inl h.sb, ?_, ?_, gro_lt h.lt hc.size⟩⟩, hc.mono (fun g _ hg => hS g hg)⟩
  · intro p hp
    rcases mem_fput.1 hp with rfl | ⟨hp, hne⟩
    · exact hx
    · refine frow_chg (h.rows p hp) hc ?_
      rintro g hg (rfl | hmg | ⟨y, hy, hyg⟩)
      · exact h.row_ne hp hg
      · exact h.row_mb hp hg hmg
      · exact h.apart p hp _ (fget_mem hy) hne g hg hyg
  · have key : ∀ q ∈ L, q.1 ≠ k → ∀ g, x.row.ownBlock = some g → q.2.row.ownBlock ≠ some g := by
      intro q hq hne g hg hqg
      have := h.lt g (h.sr q hq g hqg)
      rcases hxo g hg with hn | ⟨y, hy, hyg⟩
      · omega
      · exact h.apart q hq _ (fget_mem hy) hne g hqg hyg
    intro p hp q hq hne g hpg
    rcases mem_fput.1 hp with rfl | ⟨hp, hpk⟩
    · rcases mem_fput.1 hq with rfl | ⟨hq, hqk⟩
      · exact absurd rfl hne
      · exact key q hq hqk g hpg
    · rcases mem_fput.1 hq with rfl | ⟨hq, hqk⟩
      · exact fun e => key p hp hpk g e hpg
      · exact h.apart p hp q hq hne g hpg
  · intro g hg
    rcases hmb with e | ⟨m, e, h1, h2⟩
    · exact .inl (h.sm g (by rw [← e]; exact hg))
    · rw [e] at hg
      injection hg with hg
      subst hg
      exact .inr ⟨h1, h2⟩
  · intro p hp g hg
    rcases mem_fput.1 hp with rfl | ⟨hp, _⟩
    · rcases hxo g hg with hn | ⟨y, hy, hyg⟩
      · exact .inr ⟨hn, hxl g hg⟩
      · exact .inl (h.sr _ (fget_mem hy) g hyg)
    · exact .inl (h.sr p hp g hg)
theorem DskIn.below_drew {w : World} {b : Nat} {S : Nat → Prop} {M : DM} {mb : Option Nat} {L : List (List UInt8 × FX)} (h : DskIn w b S M mb L) : DskIn w.drew b S M mb L := h.below ((Below.refl _ _).drew)
theorem own_len {a : Option Addr} {n n' c c' g : Nat} (h : (Value.slice a n c).ownBlock = some g) : (Value.slice a n' c').ownBlock = some g := by
  cases a with
  | none => cases h
  | some x => exact h
/-- The first bytes of a row. -/
theorem frow_take {w : World} {x : FX} (h : FRow w x) {q : Nat} (hq : q ≤ x.data.length) : RowS w 5 (.slice x.adr q x.cap) q (b8s (x.data.take q)) := by
  refine ⟨by simp [b8s]; omega, ?_⟩
  rcases h.2 with ⟨hv, h0⟩ | ⟨g, cap, cur, fz, hv, hg, hf, hc, hm, hs, ht⟩
  · injection hv with e1 e2 e3
    have : q = 0 := by omega
    exact .inl ⟨by rw [e1, e3, this], this⟩
  · injection hv with e1 e2 e3
    refine .inr ⟨g, cap, cur, fz, by rw [e1, e3], hg, hf, by omega, hm, hs, ?_⟩
    have e : b8s (x.data.take q) = (b8s x.data).take q := by simp [b8s, List.map_take]
    rw [e, ← ht, List.take_take]
    congr 1
    omega
/-- lay, whatever there is. -/
theorem lay_any (b : Nat) (D : Dk) (fs : List FEnt) (s : ByteArray) (f : FRaw) (w : World) (hs : s.size ≤ maxLen) (h : DAt w b D) (hf : FilesAt w D.mb fs) (hl : fs.length < maxLen) :
    Calls Try.prog 44 #[.pointer (some ⟨b, 0, none⟩), .string s, fileV f] w fun e w' => e = .returned (.tuple #[]) ∧ ∃ mb', DAt w' b { D with mb := mb' } ∧ FilesAt w' mb' (fput fs s.data.toList f) ∧ (mb' = D.mb ∨ ∃ m, mb' = some m ∧ w.heap.size ≤ m ∧ m < w'.heap.size) ∧ Chg (fun g => g = b ∨ D.mb = some g) w w' := by
  rcases hf with ⟨hm, rfl⟩ | ⟨m, hm, hown⟩
  · refine (lay_none b D s f w hs h hm).mono ?_
    rintro e w' ⟨rfl, h1, h2, h3⟩
    have hlt : w.heap.size + 1 < w'.heap.size := by
      obtain ⟨es, clock, hb, _⟩ := h2
      exact (Array.getElem?_eq_some_iff.1 hb).1
    exact ⟨rfl, _, h1, .inr ⟨_, rfl, h2⟩, .inr ⟨_, rfl, by omega, hlt⟩, h3.mono (fun _ _ e => .inl e)⟩
  · refine (lay_some b m D fs s f w hs h hm hown hl).mono ?_
    rintro e w' ⟨rfl, h1, h2, h3⟩
    refine ⟨rfl, some m, ?_, .inr ⟨m, rfl, h2⟩, .inl hm.symm, h3.mono (fun _ _ e => .inr (by rw [hm, e]))⟩
    obtain ⟨on, uses, armed, left, room, mb⟩ := D
    simp only at hm
    subst hm
    exact h1
end Go.Proofs.Ytmepanbfknmieaa
