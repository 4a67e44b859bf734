/- Contract of value.Unkey. -/
import Derived.Test.YtfoejfneggcncaaDoorCutKey
import Derived.Test.YtfoejfneggcncaaDoorVals
import Derived.Test.YtfoejfneggcncaaDoorRowsC
namespace Go.Proofs.YtfoejfneggcncaaDoor
open Go.RowKit
def vcells (vs : List Val) : List Value := vs.flatMap fun v => [.int .i64 v.1, .int .i64 v.2.1, .string v.2.2]
theorem vcells_len (vs : List Val) : (vcells vs).length = vs.length * 3 := by
  induction vs with
  | nil => rfl
  | cons v t ih =>
    have : vcells (v :: t) = [.int .i64 v.1, .int .i64 v.2.1, .string v.2.2] ++ vcells t := rfl
    rw [this, List.length_append, ih, List.length_cons]; simp; omega
theorem vcells_snoc (vs : List Val) (v : Val) : vcells (vs ++ [v]) = vcells vs ++ [.int .i64 v.1, .int .i64 v.2.1, .string v.2.2] := by simp [vcells]
theorem vcells_at : ∀ (vs : List Val) (i : Nat) (v : Val), vs[i]? = some v → (vcells vs)[i * 3]? = some (.int .i64 v.1) ∧ (vcells vs)[i * 3 + 1]? = some (.int .i64 v.2.1) ∧ (vcells vs)[i * 3 + 2]? = some (.string v.2.2)
  | [], i, v, h => by simp at h
  | u :: t, 0, v, h => by simp at h; subst h; exact ⟨rfl, rfl, rfl⟩
  | u :: t, i + 1, v, h => by
    obtain ⟨h0, h1, h2⟩ := vcells_at t i v (by simpa using h)
    have e : vcells (u :: t) = [.int .i64 u.1, .int .i64 u.2.1, .string u.2.2] ++ vcells t := rfl
    rw [e]
    refine ⟨?_, ?_, ?_⟩ <;> rw [List.getElem?_append_right (by simp; omega)]
    · rw [← h0]; congr 1; simp; omega
    · rw [← h1]; congr 1; simp; omega
    · rw [← h2]; congr 1; simp; omega
theorem own_vals {w : World} {B : Nat} {t : TypeId} {a : Option Addr} {n c : Nat} {vs : List Val} (h : w.ownsRow B t 3 (.slice a n c) n (vcells vs)) : Vals w a vs := by
  by_cases hn : vs = []
  · exact .inl hn
  · rcases h.2 with ⟨hv, h0⟩ | ⟨g, cap, cur, hv, _, hg, _⟩
    · have := h.1; rw [vcells_len, h0] at this
      exact absurd (List.length_eq_zero_iff.1 (by omega)) hn
    · injection hv with ha hn' hc
      subst ha
      refine .inr ⟨hn, g, 0, rfl, (Array.getElem?_eq_some_iff.1 hg).1, fun i v hi => ?_⟩
      obtain ⟨h0, h1, h2⟩ := vcells_at vs i v hi
      have hc := fun j u => h.cells (g := g) rfl j u
      have hadd : ∀ j, (⟨g, 0, none⟩ : Addr).add j = ⟨g, j, none⟩ := fun j => by unfold Addr.add; split <;> simp_all
      refine ⟨?_, ?_, ?_⟩
      · have := hc _ _ h0; rw [hadd] at this; simpa using this
      · have := hc _ _ h1; rw [hadd] at this; simpa using this
      · have := hc _ _ h2; rw [hadd] at this; simpa using this
theorem unesc_len : ∀ n : Nat, ∀ l p, l.length ≤ n → unesc l = some p → p.1.length + p.2.length < l.length
  | 0, l, p, hl, h => by
    rw [List.length_eq_zero_iff.1 (by omega : l.length = 0)] at h; cases h
  | n + 1, [], p, hl, h => by cases h
  | n + 1, c :: r, p, hl, h => by
    by_cases hc : c = 0
    · subst hc
      rw [unesc_zero] at h
      rcases r with _ | ⟨d, t⟩
      · cases h
      · simp only at h
        by_cases h1 : d = 1
        · rw [if_pos h1] at h; injection h with h; subst h; simp; omega
        · rw [if_neg h1] at h
          by_cases h2 : d = 255
          · rw [if_pos h2] at h
            obtain ⟨q, hq, rfl⟩ := Option.map_eq_some_iff.1 h
            have := unesc_len n t q (by simp at hl; omega) hq
            simp; omega
          · rw [if_neg h2] at h; cases h
    · rw [unesc_ne c r hc] at h
      obtain ⟨q, hq, rfl⟩ := Option.map_eq_some_iff.1 h
      have := unesc_len n r q (by simp at hl; omega) hq
      simp; omega
theorem vcut_len (k : UInt8) (r : List UInt8) (p) (h : vcut (k :: r) = some p) : p.2.length ≤ r.length := by
  unfold vcut at h
  simp only at h
  split at h
  · injection h with h; subst h; simp
  · split at h
    · obtain ⟨q, hq, rfl⟩ := Option.map_eq_some_iff.1 h
      have := unesc_len r.length r q (Nat.le_refl _) hq
      simp only; omega
    · split at h
      · rcases r with _ | ⟨d, t⟩
        · cases h
        · injection h with h; subst h; simp
      · cases h
/-- The row of a key. -/
def unk : Nat → List UInt8 → Option (List Val)
  | _, [] => some []
  | 0, _ :: _ => none
  | n + 1, k :: r => match vcut (k :: r) with
    | none => none
    | some p => if vright p.1 then (unk n p.2).map (p.1 :: ·) else none
theorem unk_nil (n : Nat) : unk n [] = some [] := by cases n <;> rfl
def UnkRet (o : Option (List Val)) (e : Ending) (w' : World) : Prop := match o with
  | some vs => ∃ a c, e = .returned (.tuple #[.slice a vs.length c, .bool true]) ∧ Vals w' a vs
  | none => e = .returned (.tuple #[.slice none 0 0, .bool false])
theorem info_val : (Tryd.prog.info? 54).map (fun i => (i.zero, i.size, i.bytes)) = some (some (.agg #[.int .i64 0, .int .i64 0, .string ⟨#[]⟩]), 3, 32) := by kernel_rfl
theorem own_below {w w' : World} {B : Nat} {t : TypeId} {v : Value} {n : Nat} {xs : List Value} (h : w.ownsRow B t 3 v n xs) (hb : Below w.heap.size w w') : w'.ownsRow B t 3 v n xs :=
  h.kept (row := none) ⟨hb.os, hb.tape, hb.output, hb.size, fun k hk _ => hb.block k hk⟩ (by cases hv : v.ownBlock <;> simp)
theorem cell_three_new (w : World) (t : TypeId) (x y z : Value) : ∀ j u, [x, y, z][j]? = some u → (w.alloc (.cells #[x, y, z] t)).cell? ((⟨w.heap.size, 0, none⟩ : Addr).add j) = some u := by
  intro j u hu
  have hadd : (⟨w.heap.size, 0, none⟩ : Addr).add j = ⟨w.heap.size, j, none⟩ := by unfold Addr.add; split <;> simp_all
  rw [hadd]
  have hb : (w.alloc (.cells #[x, y, z] t)).heap[w.heap.size]? = some (.cells #[x, y, z] t (0, 0)) := Array.getElem?_push_size
  rw [Lib.cell_of_heap hb j]
  simpa using hu
set_option maxRecDepth 100000 in
set_option maxHeartbeats 4000000 in
theorem unkey_any (s : ByteArray) (hs : s.size ≤ 100000) (w : World) (hmx : IntCell w 1) :
    Calls Tryd.prog 11 #[.string s] w fun e w' => UnkRet (unk s.size s.data.toList) e w' ∧ Below w.heap.size w w' := by
  obtain ⟨i0, hi, iz0, iz1, iz2⟩ := info_parts info_val
  obtain ⟨R, hR⟩ : ∃ R, R = unk s.size s.data.toList := ⟨_, rfl⟩
  rw [← hR]
  have hR0 : Hid (R = (unk s.size s.data.toList).map fun p => ([] : List Val) ++ p) := by
    rw [hR]; cases unk s.size s.data.toList <;> simp [Hid]
  have hlen0 : ([] : List Val).length + s.data.toList.length ≤ 100000 := by rw [← Lib.size_eq]; simpa using hs
  have HM := Lib.hid hmx
  clear hR hmx
  go_enter Tryd.func11, Tryd.ntmps11
  go_wp2
  go_loopw [0, 4] (fun i sl wr => ∃ (f : Nat) (x : List UInt8) (done : List Val) (a : Option Addr) (c : Nat), i = .string ⟨x.toArray⟩ ∧ sl = .slice a done.length c ∧ x.length ≤ f ∧ done.length + x.length ≤ 100000 ∧ Hid (R = (unk f x).map fun p => done ++ p) ∧ wr.ownsRow w.heap.size 54 3 (.slice a done.length c) done.length (vcells done) ∧ Below w.heap.size w wr) (fun i _ _ => match i with | .string s => s.size | _ => 0)
  case atStart =>
    exact ⟨s.size, s.data.toList, [], none, 0, congrArg Value.string (ba_eq s _ rfl), rfl, by rw [← Lib.size_eq]; exact Nat.le_refl _, hlen0, hR0, World.ownsRow_nil _ _ _ _, Below.refl _ _⟩
  case round =>
    obtain ⟨f, x, done, a, c, rfl, rfl, hf, hlen, hR, hown, hbel⟩ := hrel
    have hszr := hbel.size
    have HM1 := Lib.hid (HM.out.below hbel)
    rcases x with _ | ⟨k, r⟩
    · have hRn : R = some done := by rw [hR.out, unk_nil]; simp
      have HO := Lib.hid hown
      clear hR
      go_wp2
      go_ret2
      rw [hRn]
      exact ⟨⟨a, c, rfl, own_vals HO.out⟩, hbel⟩
    · obtain ⟨f, rfl⟩ : ∃ g, f = g + 1 := ⟨f - 1, by simp at hf; omega⟩
      have HO := Lib.hid hown
      clear hown
      have hne : (⟨(k :: r).toArray⟩ : ByteArray).toList.isEmpty = false := ne_empty (by rw [ba_size]; simp)
      go_wp2_with fail
      refine (cutkey_any k r (by simp at hlen; omega) _ HM1.out).mono ?_
      rintro e w1 ⟨rfl, hb1⟩
      have hz1 := hb1.size
      have hbw1 := hbel.trans (hb1.mono hszr)
      have hO1 := own_below HO.out hb1
      have HO1 := Lib.hid hO1
      clear HO hO1
      have hRu : R = (unk (f + 1) (k :: r)).map fun p => done ++ p := hR.out
      simp only [unk] at hRu
      cases hv : vcut (k :: r) with
      | none =>
        rw [hv] at hRu
        have hRn : R = none := hRu
        clear hRu hR hv
        unfold ckret
        go_wp2
        go_ret2
        rw [hRn]
        exact ⟨rfl, hbw1.alloc (by omega) _⟩
      | some p =>
        have hpl := vcut_len k r p hv
        rw [hv] at hRu
        simp only at hRu
        have HRu := Lib.hid hRu
        clear hRu hR hv
        obtain ⟨⟨pk, pn, ps⟩, rest⟩ := p
        unfold ckret
        simp only at hpl HRu ⊢
        have hbC : Below w1.heap.size w1 (w1.alloc (.cells #[.int .i64 pk, .int .i64 pn, .string ps] 54)) := (Below.refl _ _).alloc (Nat.le_refl _) _
        go_wp2_with fail
        refine (right_any (pk, pn, ps) _).mono ?_
        rintro e w2 ⟨rfl, hb2⟩
        have hz2 := hb2.size
        simp at hz2
        have hb12 : Below w1.heap.size w1 w2 := Below.thenB hbC (by simp) hb2
        have hbw2 := hbw1.trans (hb12.mono (by omega))
        have hO2 := own_below HO1.out hb12
        have hblk : w2.heap[w1.heap.size]? = some (.cells #[.int .i64 pk, .int .i64 pn, .string ps] 54 (0, 0)) := (hb2.block _ (by simp)).trans Array.getElem?_push_size
        obtain ⟨⟨c0, c1, c2⟩, f0, f1, f2⟩ := val_has hblk
        have HO2 := Lib.hid hO2
        clear hO2 hblk HO1
        cases hvr : vright (pk, pn, ps) with
        | false =>
          rw [hvr] at HRu
          have hRn : R = none := HRu.out
          clear HRu hvr
          go_wp2
          go_ret2
          rw [hRn]
          exact ⟨rfl, hbw2⟩
        | true =>
          rw [hvr] at HRu
          have hRs : Hid (R = (unk f rest).map fun q => (done ++ [(pk, pn, ps)]) ++ q) := by
            have := HRu.out
            simp only [if_true] at this
            rw [this]; cases unk f rest <;> simp [Hid]
          clear HRu hvr
          go_wp2_with (at_builtin; refine wpList_append_lies _ rfl (.tmp 23) (.tmp 25) 22 rfl w.heap.size 54 i0 (.agg #[.int .i64 0, .int .i64 0, .string ⟨#[]⟩]) 3 32 Tryd.underlying22 hi iz0 iz1 iz2 rfl (by decide) _ done.length (vcells done) rfl (HO2.out.alloc _) ⟨w2.heap.size, 0, none⟩ 1 1 [.int .i64 pk, .int .i64 pn, .string ps] rfl rfl (cell_three_new _ _ _ _ _) ?c1 (by decide) ?c2 ?c3 ?c4 (w2.heap.size + 1) ?c5 ?_)
          case c1 => simp [Value.oneCell']
          case c2 => unfold maxLen; simp at hlen; omega
          case c3 => simp at hlen; omega
          case c4 => simp; omega
          case c5 => simp
          intro g cap w3 hown3 hgrow hat hgl
          go_wp2
          refine ⟨⟨f, rest, done ++ [(pk, pn, ps)], some ⟨g, 0, none⟩, cap, rfl, by rw [List.length_append]; rfl, by simp at hf; omega, by simp at hlen ⊢; omega, hRs, ?_, ?_⟩, ?_⟩
          · rw [vcells_snoc, List.length_append]; exact hown3
          · exact (hbw2.alloc (by omega) _).grown hgrow (by simp; omega) (fun k hk => (HO2.out.lt k hk).1)
          · show (⟨rest.toArray⟩ : ByteArray).size < (⟨(k :: r).toArray⟩ : ByteArray).size
            rw [ba_size, ba_size]; simp; omega
end Go.Proofs.YtfoejfneggcncaaDoor
