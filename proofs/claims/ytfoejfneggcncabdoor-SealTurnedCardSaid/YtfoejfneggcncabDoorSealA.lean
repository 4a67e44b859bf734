/- Contracts of All, the code's and the document's; of Same, of lists of texts. -/
import Derived.Test.YtfoejfneggcncabDoorSealR
namespace Go.Proofs.YtfoejfneggcncabDoor
open Go.RowKit
/-- What is framed, one behind the other: how many bytes these frames have, and why the next one isn't. -/
def allB : Nat → List UInt8 → List ByteArray × Nat × Nat
  | 0, _ => ([], 0, 0)
  | f + 1, l => if l = [] then ([], 0, 0) else
    match openB l with
    | (d, n, 0) => (⟨d.toArray⟩ :: (allB f (l.drop n)).1, n + (allB f (l.drop n)).2.1, (allB f (l.drop n)).2.2)
    | (_, _, why) => ([], 0, why)
theorem openB_cases (l : List UInt8) : (∃ d n, openB l = (d, n, 0) ∧ 12 ≤ n ∧ n ≤ l.length ∧ d.length ≤ l.length) ∨ openB l = ([], 0, 1) ∨ openB l = ([], 0, 2) := by
  unfold openB
  split
  · exact .inr (.inl rfl)
  · split
    · exact .inr (.inr rfl)
    · split
      · exact .inr (.inl rfl)
      · split
        · exact .inl ⟨_, _, rfl, by omega, by omega, by rw [List.length_take, List.length_drop]; omega⟩
        · exact .inr (.inr rfl)
theorem own_cap {w : World} {B : Nat} {t : TypeId} {a : Option Addr} {n c k : Nat} {xs : List Value} (h : w.ownsRow B t k (.slice a n c) n xs) : n ≤ c := by
  rcases h.2 with ⟨hv, h0⟩ | ⟨g, cap, cur, hv, _, hg, hc, _⟩
  · omega
  · injection hv with ha hn' hcc; omega
def tcells (ss : List ByteArray) : List Value := ss.map Value.string
theorem own_texts {w : World} {B : Nat} {t : TypeId} {a : Option Addr} {n c : Nat} {ss : List ByteArray} (h : w.ownsRow B t 1 (.slice a n c) n (tcells ss)) : Texts w a ss := by
  by_cases hn : ss = []
  · exact .inl hn
  · rcases h.2 with ⟨hv, h0⟩ | ⟨g, cap, cur, hv, _, hg, _⟩
    · have := h.1
      rw [h0] at this
      simp [tcells] at this
      exact absurd this hn
    · injection hv with ha hn' hc
      subst ha
      refine .inr ⟨hn, g, 0, rfl, (Array.getElem?_eq_some_iff.1 hg).1, fun i s hi => ?_⟩
      have hc := h.cells (g := g) rfl i (.string s) (by simp [tcells, hi])
      have hadd : (⟨g, 0, none⟩ : Addr).add i = ⟨g, i, none⟩ := by unfold Addr.add; split <;> simp_all
      rw [hadd] at hc
      simpa using hc
theorem info_str : (Tryd.prog.info? 9).map (fun i => (i.zero, i.size, i.bytes)) = some (some (.string ⟨#[]⟩), 1, 16) := by kernel_rfl
/-- Texts, how many bytes, and why. -/
def AllRet (r : List ByteArray × Nat × Nat) (e : Ending) (w' : World) : Prop :=
  ∃ a c, e = .returned (.tuple #[.slice a r.1.length c, .int .i64 (r.2.1 : Int), .int .i64 (r.2.2 : Int)]) ∧ Texts w' a r.1 ∧ r.1.length ≤ c
def joinR (done : List ByteArray) (at_ : Nat) (r : List ByteArray × Nat × Nat) : List ByteArray × Nat × Nat := (done ++ r.1, at_ + r.2.1, r.2.2)
theorem joinR_step (done : List ByteArray) (at_ n : Nat) (d : ByteArray) (r : List ByteArray × Nat × Nat) : joinR done at_ (d :: r.1, n + r.2.1, r.2.2) = joinR (done ++ [d]) (at_ + n) r := by
  unfold joinR; simp [Nat.add_assoc]
def AllRel (s : ByteArray) (R : List ByteArray × Nat × Nat) (w : World) (sl i : Value) (wr : World) : Prop :=
  ∃ (f at_ : Nat) (done : List ByteArray) (a : Option Addr) (c : Nat), sl = .slice a done.length c ∧ i = .int .i64 (at_ : Int) ∧ at_ ≤ s.size ∧ s.size - at_ ≤ f ∧ done.length ≤ at_ ∧ Hid (R = joinR done at_ (allB f (s.data.toList.drop at_))) ∧
    wr.ownsRow w.heap.size 9 1 (.slice a done.length c) done.length (tcells done) ∧ Below w.heap.size w wr
set_option maxRecDepth 100000 in
set_option maxHeartbeats 4000000 in
theorem seal_all (s : ByteArray) (hs : s.size ≤ 1048576) (w : World) (hN : Nibs w) :
    Calls Tryd.prog 11 #[.string s] w fun e w' => AllRet (allB s.size s.data.toList) e w' ∧ Below w.heap.size w w' := by
  obtain ⟨i0, hi, hz0, hz1, hz2⟩ := info_parts info_str
  obtain ⟨R, hR⟩ : ∃ R, R = allB s.size s.data.toList := ⟨_, rfl⟩
  rw [← hR]
  have hR0 : Hid (R = joinR [] 0 (allB s.size (s.data.toList.drop 0))) := by
    rw [hR, List.drop_zero]; unfold joinR; simp [Hid]
  have HN := Lib.hid hN
  have hsl : s.data.toList.length = s.size := by rw [Lib.size_eq]
  have HSL := Lib.hid hsl
  clear hR hN hsl
  go_enter Tryd.func11, Tryd.ntmps11
  go_wp2
  go_loopw [5, 6] (fun sl i wr => AllRel s R w sl i wr) (fun _ i _ => s.size - (intOf i).toNat)
  case atStart =>
    exact ⟨s.size, 0, [], none, 0, rfl, rfl, Nat.zero_le _, by omega, Nat.le_refl _, hR0, World.ownsRow_nil _ _ _ _, Below.refl _ _⟩
  case round =>
    obtain ⟨f, at_, done, a, c, rfl, rfl, hat, hf, hdl, hR, hown, hbel⟩ := hrel
    have hszr := hbel.size
    have HO := Lib.hid hown
    clear hown hR0
    by_cases hlt : at_ < s.size
    · have hlt' : decide ((at_ : Int) < (s.size : Int)) = true := decide_eq_true (by omega)
      obtain ⟨f, rfl⟩ : ∃ g, f = g + 1 := ⟨f - 1, by omega⟩
      obtain ⟨X, hX⟩ : ∃ X : ByteArray, X = s.extract at_ s.size := ⟨_, rfl⟩
      have hXl : X.data.toList = s.data.toList.drop at_ := by rw [hX, ext_list, List.take_of_length_le (by rw [List.length_drop, HSL.out]; omega)]
      have hXs : X.size = s.size - at_ := by rw [Lib.size_eq, hXl, List.length_drop, HSL.out]
      have hne : s.data.toList.drop at_ ≠ [] := by rw [← hXl]; intro e; have := Lib.size_eq X; rw [e, List.length_nil] at this; omega
      have hRu := hR.out
      simp only [allB] at hRu
      rw [if_neg hne, ← hXl] at hRu
      have hop := seal_open X (by omega) wr (HN.out.below hbel)
      have hXe := hX.symm
      rcases openB_cases X.data.toList with ⟨d, n, he, hn12, hnl, hdl2⟩ | he
      · rw [he] at hRu hop
        simp only at hRu
        have hdr : X.data.toList.drop n = s.data.toList.drop (at_ + n) := by rw [hXl, List.drop_drop]
        rw [hdr, joinR_step] at hRu
        rw [← Lib.size_eq] at hnl
        unfold openE at hop
        simp only at hop
        obtain ⟨D, hD⟩ : ∃ D : ByteArray, D = ⟨d.toArray⟩ := ⟨_, rfl⟩
        rw [← hD] at hRu hop
        have HR := Lib.hid hRu
        have HOP := Lib.hid hop
        have hXs2 : X.size ≤ s.size - at_ := by omega
        clear hRu hop hR hX hXl hne he hdr hdl2 hD hXs
        go_wp2_with fail
        refine HOP.out.mono ?_
        rintro e w1 ⟨rfl, hb1⟩
        have hb2 := Below.thenB hbel hszr hb1
        have hO1 := own1_below HO.out hb1
        have HO1 := Lib.hid hO1
        have hz1' := hb1.size
        clear HO hO1
        go_wp2_with (at_builtin; refine wpList_append_lies _ rfl (.tmp 27) (.tmp 29) 32 rfl w.heap.size 9 i0 (.string ⟨#[]⟩) 1 16 Tryd.underlying32 hi hz0 hz1 hz2 rfl (by decide) _ done.length (tcells done) rfl (HO1.out.alloc _) ⟨w1.heap.size, 0, none⟩ 1 1 [.string D] rfl rfl (one_cell_new _ _ _) ?c1 (by decide) ?c2 ?c3 ?c4 (w1.heap.size + 1) ?c5 ?_)
        case c1 => simp [Value.oneCell']
        case c2 => unfold maxLen; omega
        case c3 => omega
        case c4 => simp; omega
        case c5 => simp
        intro g cap w3 hn1 hgr hatt hlt1
        have hb3 : Below w.heap.size w w3 := (hb2.alloc (by omega) _).grown hgr (by simp; omega) (fun j hj => (HO1.out.lt j hj).1)
        have hO3 : w3.ownsRow w.heap.size 9 1 (.slice (some ⟨g, 0, none⟩) (done.length + 1) cap) (done.length + 1) (tcells (done ++ [D])) := by simpa [tcells] using hn1
        have HO3 := Lib.hid hO3
        clear hgr hatt hn1 hO3
        go_wp2
        go_roundw
        case rel => exact ⟨f, at_ + n, done ++ [D], some ⟨g, 0, none⟩, cap, by simp, by go_num, by omega, by omega, by simp; omega, HR.out, by simpa using HO3.out, hb3⟩
        case measure => simp [intOf]; omega
      · have hx : ∃ why : Nat, openB X.data.toList = ([], 0, why) ∧ 1 ≤ why ∧ why ≤ 2 := by
          rcases he with he | he
          · exact ⟨1, he, by omega, by omega⟩
          · exact ⟨2, he, by omega, by omega⟩
        obtain ⟨why, he, hw1, hw2⟩ := hx
        have hRn : R = (done, at_, why) := by
          rw [he] at hRu
          rcases why with _ | why
          · omega
          · simp only at hRu
            rw [hRu]; unfold joinR; simp
        rw [he] at hop
        unfold openE at hop
        simp only at hop
        have HR := Lib.hid hRn
        have HOP := Lib.hid hop
        have hbw : ((why : Int) != 0) = true := bne_iff_ne.2 (by omega)
        clear hRu hop hR hX hXl hne he hRn hXs
        go_wp2_with fail
        refine HOP.out.mono ?_
        rintro e w1 ⟨rfl, hb1⟩
        have hb2 := Below.thenB hbel hszr hb1
        have hO1 := own1_below HO.out hb1
        have HO1 := Lib.hid hO1
        clear HO hO1
        go_wp2
        go_ret3
        rw [HR.out]
        exact ⟨⟨a, c, rfl, own_texts HO1.out, own_cap HO1.out⟩, hb2⟩
    · have hlt' : decide ((at_ : Int) < (s.size : Int)) = false := decide_eq_false (by omega)
      have hRn : R = (done, at_, 0) := by
        rw [hR.out]
        have : allB f (s.data.toList.drop at_) = ([], 0, 0) := by
          rw [List.drop_eq_nil_of_le (by rw [HSL.out]; omega)]
          cases f with
          | zero => rfl
          | succ f => simp [allB]
        rw [this]; unfold joinR; simp
      have HR := Lib.hid hRn
      clear hRn hR
      go_wp2
      go_ret3
      rw [HR.out]
      exact ⟨⟨a, c, rfl, own_texts HO.out, own_cap HO.out⟩, hbel⟩
/-- Two lists of texts that are the same. -/
def tsame (a b : List ByteArray) : Bool := decide (a = b)
theorem ba_toList_inj {a b : ByteArray} (h : a.toList = b.toList) : a = b := by
  rw [ByteArray.toList_eq, ByteArray.toList_eq] at h
  cases a; cases b
  congr 1
  exact Array.toList_inj.1 h
theorem tsame_no {us vs : List ByteArray} {k : Nat} {u v : ByteArray} (hu : us[k]? = some u) (hv : vs[k]? = some v) (h : ¬ u = v) : tsame us vs = false := by
  unfold tsame
  refine decide_eq_false (fun e => h ?_)
  subst e
  exact Option.some.inj (hu.symm.trans hv)
theorem tsame_yes {us vs : List ByteArray} {k : Nat} (hl : us.length = vs.length) (hk : us.length ≤ k) (h : us.take k = vs.take k) : tsame us vs = true := by
  unfold tsame
  rw [List.take_of_length_le hk, List.take_of_length_le (by omega)] at h
  exact decide_eq_true h
set_option maxRecDepth 100000 in
set_option maxHeartbeats 1000000 in
theorem tsame_any (a a' : Option Addr) (m c m' c' : Nat) (us vs : List ByteArray) (w : World) (hl : us.length = m) (hl' : vs.length = m') (hm : m ≤ 1048576) (hm' : m' ≤ 1048576) (hu : Texts w a us) (hv : Texts w a' vs) :
    Calls Tryd.prog 12 #[.slice a m c, .slice a' m' c'] w fun e w' => e = .returned (.bool (tsame us vs)) ∧ Below w.heap.size w w' := by
  obtain ⟨r, hr⟩ : ∃ r, r = tsame us vs := ⟨_, rfl⟩
  rw [← hr]
  have HR := Lib.hid hr
  clear hr
  by_cases hmm : m = m'
  · subst hmm
    have HL := Lib.hid hl
    have HL' := Lib.hid hl'
    have hmm : ((m : Int) != (m : Int)) = false := by simp
    clear hl hl'
    go_enter Tryd.func12, Tryd.ntmps12
    go_wp2
    go_loopw [5] (fun i wr => ∃ k : Nat, k ≤ m ∧ i = .int .i64 (k : Int) ∧ us.take k = vs.take k ∧ Below w.heap.size w wr) (fun i _ => m - (intOf i).toNat)
    case atStart => exact ⟨0, Nat.zero_le _, rfl, by simp, Below.refl _ _⟩
    case round =>
      obtain ⟨k, hk, rfl, hT, hbel⟩ := hrel
      have HT := Lib.hid hT
      clear hT
      by_cases hlt : k < m
      · have hlt' : decide ((k : Int) < (m : Int)) = true := decide_eq_true (by omega)
        obtain ⟨u, huk⟩ : ∃ u, us[k]? = some u := ⟨_, List.getElem?_eq_getElem (by rw [HL.out]; exact hlt)⟩
        obtain ⟨v, hvk⟩ : ∃ v, vs[k]? = some v := ⟨_, List.getElem?_eq_getElem (by rw [HL'.out]; exact hlt)⟩
        rcases hu with hv0 | ⟨hnn, b, o, rfl, hbs, hcz⟩
        · have := HL.out
          rw [hv0] at this
          simp at this
          omega
        rcases hv with hv0 | ⟨hnn', b', o', rfl, hbs', hcz'⟩
        · have := HL'.out
          rw [hv0] at this
          simp at this
          omega
        have hc := (hbel.cell (p := ⟨b, o + k, none⟩) hbs).trans (hcz k u huk)
        have hc' := (hbel.cell (p := ⟨b', o' + k, none⟩) hbs').trans (hcz' k v hvk)
        have hU := Lib.hid huk
        have hV := Lib.hid hvk
        clear hcz hcz' huk hvk
        have hki : (k : Int) < (m : Int) := by omega
        by_cases he : u = v
        · have hb : (u.toList == v.toList) = true := by rw [he]; simp
          have hT2 : us.take (k + 1) = vs.take (k + 1) := by rw [List.take_add_one, List.take_add_one, HT.out, hU.out, hV.out, he]
          have HT2 := Lib.hid hT2
          clear he hT2
          go_wp2_with fail
          go_quiet (fail)
          go_wp2
          go_roundw
          case rel => exact ⟨k + 1, by omega, by go_num, HT2.out, bdrewN hbel _⟩
          case measure => simp [intOf]; omega
        · have hb : (u.toList == v.toList) = false := beq_false_of_ne (fun e => he (ba_toList_inj e))
          have hrf : r = false := by rw [HR.out]; exact tsame_no hU.out hV.out he
          have HF := Lib.hid hrf
          clear he hrf
          go_wp2_with fail
          go_quiet (fail)
          go_wp2
          go_ret
          exact ⟨by rw [HF.out]; rfl, bdrewN hbel _⟩
      · have hlt' : decide ((k : Int) < (m : Int)) = false := decide_eq_false (by omega)
        have hrt : r = true := by rw [HR.out]; exact tsame_yes (HL.out.trans HL'.out.symm) (by rw [HL.out]; omega) HT.out
        have HF := Lib.hid hrt
        clear hrt
        go_wp2
        go_ret
        exact ⟨by rw [HF.out]; rfl, hbel⟩
  · have hb : ((m : Int) != (m' : Int)) = true := bne_iff_ne.2 (by omega)
    have hb' : (m != m') = true := bne_iff_ne.2 hmm
    have hrf : r = false := by
      rw [HR.out]; unfold tsame
      exact decide_eq_false (fun e => hmm (by rw [← hl, ← hl', e]))
    have HF := Lib.hid hrf
    clear hrf hl hl' hmm
    go_enter Tryd.func12, Tryd.ntmps12
    go_wp2
    go_ret
    exact ⟨by rw [HF.out]; rfl, Below.refl _ _⟩
end Go.Proofs.YtfoejfneggcncabDoor
