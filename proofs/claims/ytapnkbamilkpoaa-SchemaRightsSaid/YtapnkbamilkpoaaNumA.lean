/- Contracts of the document's numbers: at, trim, sign, Of. -/
import Derived.Test.YtapnkbamilkpoaaWorld
import Derived.Test.YtapnkbamilkpoaaRows
import Derived.Test.YtapnkbamilkpoaaDig
import Derived.Deep.RegionHeld3
import Derived.Deep.QuietTactic
import Derived.BigQuiet
namespace Go.Proofs.Ytapnkbamilkpoaa
open Go.RowKit
/-- A slice value that reads as digits of the value V, at most L of them. -/
def DigAt (w : World) (v : Value) (V : Int) (L : Nat) : Prop := ∃ a n c ds, v = .slice a n c ∧ ds.length = n ∧ n ≤ c ∧ n ≤ L ∧ Ints .i64 w a ds ∧ Digs ds ∧ dval ds = V
/-- The parts of a Num that is the number V. -/
def NumP (w : World) (x : Bool) (a : Option Addr) (n c : Nat) (V : Int) : Prop := x = decide (V < 0) ∧ ∃ ds, ds.length = n ∧ n ≤ c ∧ Ints .i64 w a ds ∧ Canon ds ∧ dval ds = V.natAbs
/-- Whatever a leads to is no older than block B. -/
def Fresh (B : Nat) (a : Option Addr) : Prop := ∀ y, a = some y → B ≤ y.block
theorem Fresh.mono {B C : Nat} {a : Option Addr} (h : Fresh B a) (hC : C ≤ B) : Fresh C a := fun y hy => Nat.le_trans hC (h y hy)
def NumRet (Q : Option Addr → Prop) (V : Int) (w : World) (e : Ending) (w' : World) : Prop := ∃ x a n c, e = .returned (.agg #[.bool x, .slice a n c]) ∧ NumP w' x a n c V ∧ Below w.heap.size w w' ∧ Q a
theorem NumP.chg {S : Nat → Prop} {w w' : World} {x : Bool} {a : Option Addr} {n c : Nat} {V : Int} (h : NumP w x a n c V) (hc : Chg S w w') (hs : 0 < n → ∀ y, a = some y → ¬ S y.block) : NumP w' x a n c V := by
  obtain ⟨h1, ds, h2, h3, h4, h5⟩ := h
  exact ⟨h1, ds, h2, h3, h4.chg hc (fun hn => hs (by rw [← h2]; exact List.length_pos_iff.2 hn)), h5⟩
theorem NumP.drew {w : World} {x : Bool} {a : Option Addr} {n c : Nat} {V : Int} (h : NumP w x a n c V) : NumP w.drew x a n c V := h
theorem NumP.below {w w' : World} {x : Bool} {a : Option Addr} {n c : Nat} {V : Int} (h : NumP w x a n c V) (hb : Below w.heap.size w w') : NumP w' x a n c V := h.chg (S := fun _ => False) (Chg.ofBelow hb) (fun _ _ _ f => f)
/-- The variable of a result that is a Num. -/
theorem num_cell {w w1 : World} {t : TypeId} {B : Nat} (hB : w.heap.size = B) (h : Below (B + 1) (w.alloc (.cells #[.bool false, .slice none 0 0] t)) w1) :
    w1.heap[B]? = some (.cells #[.bool false, .slice none 0 0] t) ∧ w1.cell? ⟨B, 0, none⟩ = some (.bool false) ∧ w1.cell? ⟨B, 1, none⟩ = some (.slice none 0 0) ∧
    w1.frozen? ⟨B, 0, none⟩ = false ∧ w1.frozen? ⟨B, 1, none⟩ = false := by
  subst hB
  have e := h.block w.heap.size (by omega)
  refine ⟨by rw [e]; exact (MapKept.heap_alloc w _).1, ?_, ?_, ?_, ?_⟩
  · rw [World.cell?_of_block (w := w.alloc (.cells #[.bool false, .slice none 0 0] t)) e]; go_simp
  · rw [World.cell?_of_block (w := w.alloc (.cells #[.bool false, .slice none 0 0] t)) e]; go_simp
  · rw [World.frozen?_of_block (w := w.alloc (.cells #[.bool false, .slice none 0 0] t)) e]; go_simp
  · rw [World.frozen?_of_block (w := w.alloc (.cells #[.bool false, .slice none 0 0] t)) e]; go_simp
theorem ints_ne {w1 : World} {B : Nat} {t : TypeId} {x : Bool} {a' : Option Addr} {n c : Nat} {a : Option Addr} {ds : List Int} (hblk : w1.heap[B]? = some (.cells #[.bool x, .slice a' n c] t)) (hz : Ints .i64 w1 a ds) : ds ≠ [] → ∀ y, a = some y → ¬ y.block = B := by
  rintro hne y rfl e
  rcases hz with rfl | ⟨_, b, o, hy, hb, hz⟩
  · exact hne rfl
  · obtain rfl : y = ⟨b, o, none⟩ := by simpa using hy
    obtain rfl : b = B := e
    have hc := hz 0 (List.length_pos_iff.2 hne)
    simp only [World.cell?, hblk] at hc
    rcases o with _ | _ | o <;> simp at hc
theorem num_store {w w1 : World} {t : TypeId} {x : Bool} {a : Option Addr} {n c : Nat} {V : Int} {B : Nat} (hB : w.heap.size = B) (h : Below (B + 1) (w.alloc (.cells #[.bool false, .slice none 0 0] t)) w1) (hn : NumP w1 x a n c V) :
    NumP ((w1.setCell ⟨B, 0, none⟩ (.bool x)).setCell ⟨B, 1, none⟩ (.slice a n c)) x a n c V ∧ Below B w ((w1.setCell ⟨B, 0, none⟩ (.bool x)).setCell ⟨B, 1, none⟩ (.slice a n c)) := by
  obtain ⟨hblk, h0, h1, h2, h3⟩ := num_cell hB h
  subst hB
  refine ⟨hn.chg (S := (· = w.heap.size)) (((Chg.refl (· = w.heap.size) _).setCell (.inr rfl) _).setCell (.inr rfl) _) ?_, ?_⟩
  · intro hp y hy e
    obtain ⟨_, ds, hl, _, hz, _⟩ := hn
    rcases hz with rfl | ⟨_, b, o, rfl, hb, hz⟩
    · simp at hl; omega
    · obtain rfl : y = ⟨b, o, none⟩ := by simpa using hy.symm
      obtain rfl : b = w.heap.size := e
      have hc := hz 0 (by omega)
      simp only [World.cell?, hblk] at hc
      rcases o with _ | _ | o <;> simp at hc
  · exact ((((Below.refl _ w).alloc (Nat.le_refl _) _).trans (h.mono (by omega))).setCell (Nat.le_refl _) _).setCell (Nat.le_refl _) _
def atF (ds : List Int) (i : Nat) : Int := ds.getD i 0
set_option maxHeartbeats 400000 in
theorem at_any (a : Option Addr) (n c : Nat) (ds : List Int) (i : Int) (w : World) (hn : ds.length = n) (hz : Ints .i64 w a ds) (hl : n ≤ 1048576) (h0 : 0 ≤ i) (h1 : i ≤ 1048576) :
    Calls Try.prog 83 #[.slice a n c, .int .i64 i] w fun e w' => e = .returned (.int .i64 (ds.getD i.toNat 0)) ∧ w = w' := by
  subst hn
  by_cases h : i < ds.length
  · have hd : decide (i < (ds.length : Int)) = true := by simpa using h
    rcases hz with rfl | ⟨_, b, o, rfl, hb, hz⟩
    · simp at h; omega
    have hc := hz i.toNat (by omega)
    clear hz
    generalize ds.getD i.toNat 0 = d at *
    go_enter Try.func83, Try.ntmps83
    go_wp2
    go_ret
    exact ⟨rfl, rfl⟩
  · have hd : decide (i < (ds.length : Int)) = false := by simpa using h
    have e : ds.getD i.toNat 0 = 0 := by rw [List.getD_eq_getElem?_getD, List.getElem?_eq_none (by omega)]; rfl
    rw [e]
    clear e
    go_enter Try.func83, Try.ntmps83
    go_wp2
    go_ret
    exact ⟨rfl, rfl⟩
/-- What trim gives: the digits without noughts above. -/
def TrimRet (w : World) (a : Option Addr) (c : Nat) (ds : List Int) (e : Ending) (w' : World) : Prop := ∃ n, e = .returned (.slice a n c) ∧ n ≤ ds.length ∧ Canon (ds.take n) ∧ dval (ds.take n) = dval ds ∧ w = w'
theorem take_dval0 {ds : List Int} {k : Nat} (hk : k < ds.length) (h0 : ds.getD k 0 = 0) : dval (ds.take (k + 1)) = dval (ds.take k) := by
  rw [take_getD ds k hk, dval_snoc, h0]; simp
theorem Ints.take {k : IntKind} {w : World} {a : Option Addr} {ds : List Int} (h : Ints k w a ds) (n : Nat) : Ints k w a (ds.take n) := by
  by_cases hn : ds.take n = []
  · exact .inl hn
  · rcases h with rfl | ⟨_, b, o, rfl, hb, hz⟩
    · simp at hn
    · refine .inr ⟨hn, b, o, rfl, hb, fun i hi => ?_⟩
      have hi' : i < n ∧ i < ds.length := by simp at hi; omega
      rw [show (ds.take n).getD i 0 = ds.getD i 0 from by simp [List.getD_eq_getElem?_getD, hi'.1]]
      exact hz i hi'.2
set_option maxHeartbeats 400000 in
theorem trim_any (a : Option Addr) (n c : Nat) (ds : List Int) (w : World) (hn : ds.length = n) (hc : n ≤ c) (hz : Ints .i64 w a ds) (hl : n ≤ 1048576) (hd : Digs ds) :
    Calls Try.prog 82 #[.slice a n c] w (TrimRet w a c ds) := by
  subst hn
  go_enter Try.func82, Try.ntmps82
  go_wp2
  go_loop [0] (fun v => ∃ k : Nat, k ≤ ds.length ∧ v = .slice a k c ∧ dval (ds.take k) = dval ds) (fun v => match v with | .slice _ k _ => k | _ => 0)
  case atStart => exact ⟨ds.length, Nat.le_refl _, rfl, by rw [List.take_length]⟩
  case round =>
    obtain ⟨k, hk, rfl, hv⟩ := hrel
    have HV := Lib.hid hv
    clear hv
    have hz' := hz.take k
    rcases hz' with he | ⟨hne, b, o, rfl, hb, hz'⟩
    · have hk0 : k = 0 := by
        rcases List.take_eq_nil_iff.1 he with h | h
        · exact h
        · subst h; simpa using hk
      subst hk0
      go_wp2
      refine bodyPost_ret (v := .slice a 0 c) (by simp [results, Try.results82, go_sem]) rfl ⟨0, rfl, Nat.zero_le _, by simpa using canon_nil, HV.out, rfl⟩
    · have hk0 : 0 < k := by
        rcases Nat.eq_zero_or_pos k with rfl | h
        · simp at hne
        · exact h
      have hlen : (ds.take k).length = k := by simp; omega
      have hlast := hz' (k - 1) (by omega)
      rw [show (ds.take k).getD (k - 1) 0 = ds.getD (k - 1) 0 from by simp [List.getD_eq_getElem?_getD, show k - 1 < k from by omega]] at hlast
      have hgt : decide ((0 : Int) < (k : Int)) = true := by simpa using hk0
      have e1 : ((k : Int) - 1).toNat = k - 1 := by omega
      have hidx : ((k - 1 : Nat) : Int) = (k : Int) - 1 := by omega
      have hds : dval (ds.take k) = dval (ds.take (k - 1)) + pw (k - 1) * ds.getD (k - 1) 0 := by
        have := take_getD ds (k - 1) (by omega)
        rw [show k - 1 + 1 = k from by omega] at this
        rw [this, dval_snoc, List.length_take, Nat.min_eq_left (by omega)]
      have HDS := Lib.hid hds
      have HLEN := Lib.hid hlen
      have HE := Lib.hid e1
      have HI := Lib.hid hidx
      clear hz' hds hlen e1 hidx hne
      by_cases h0 : ds.getD (k - 1) 0 = 0
      · rw [h0] at hlast
        obtain ⟨k', rfl⟩ : ∃ k', k = k' + 1 := ⟨k - 1, by omega⟩
        simp only [Nat.add_sub_cancel] at *
        have H0 := Lib.hid h0
        clear h0
        go_wp2
        go_round
        case rel => exact ⟨k', by omega, by simp, by rw [← HV.out, HDS.out, H0.out]; simp⟩
        case measure => simp
      · obtain ⟨k', rfl⟩ : ∃ k', k = k' + 1 := ⟨k - 1, by omega⟩
        simp only [Nat.add_sub_cancel] at *
        generalize hdd : ds.getD k' 0 = d at *
        have HDD := Lib.hid hdd
        have hb0 : (d == 0) = false := by simpa using h0
        have H0 := Lib.hid h0
        clear hdd h0
        go_wp2
        refine bodyPost_ret (v := .slice (some ⟨b, o, none⟩) (k' + 1) c) (by simp [results, Try.results82, go_sem]) rfl ⟨k' + 1, rfl, hk, ⟨hd.take _, ?_⟩, HV.out, rfl⟩
        intro i _ hi
        rw [HLEN.out] at hi
        obtain rfl : i = k' := by omega
        have : (ds.take (i + 1)).getD i 0 = ds.getD i 0 := by simp [List.getD_eq_getElem?_getD]
        rw [this, HDD.out]
        exact H0.out
def sgnV (neg : Bool) (V : Int) : Int := if neg then -V else V
theorem num_of {w w' : World} {a : Option Addr} {n c : Nat} {ds : List Int} {neg : Bool} (hl : ds.length = n) (hc : n ≤ c) (hz : Ints .i64 w a ds) (hcn : Canon ds) (hb : Below w.heap.size w w') {x : Bool}
    (hx : x = (neg && decide (0 < n))) : NumP w' x a n c (sgnV neg (dval ds)) := by
  have h0 := dval_nonneg hcn.1
  have hi := canon_nil_iff hcn
  subst hx
  refine ⟨?_, ds, hl, hc, hz.below hb, hcn, by unfold sgnV; cases neg <;> simp <;> omega⟩
  unfold sgnV
  by_cases hn : n = 0
  · have h1 : ds = [] := List.eq_nil_of_length_eq_zero (by omega)
    have h2 := hi.1 h1
    cases neg <;> simp [hn, h2]
  · have h1 : ds ≠ [] := by rintro rfl; simp at hl; omega
    have h2 : dval ds ≠ 0 := fun e => h1 (hi.2 e)
    cases neg <;> simp <;> omega
set_option maxHeartbeats 400000 in
theorem sign_any (neg : Bool) (a : Option Addr) (n c : Nat) (ds : List Int) (w : World) (hn : ds.length = n) (hc : n ≤ c) (hz : Ints .i64 w a ds) (hl : n ≤ 1048576) (hd : Digs ds) :
    Calls Try.prog 69 #[.bool neg, .slice a n c] w (NumRet (· = a) (sgnV neg (dval ds)) w) := by
  have hb0 : ∀ o, Below w.heap.size w (w.alloc o) := fun o => (Below.refl _ _).alloc (Nat.le_refl _) o
  have hz1 := fun o => hz.below (hb0 o)
  cases neg
  all_goals
    go_enter Try.func69, Try.ntmps69
    go_wp2_with fail
    refine (trim_any a n c ds _ hn hc (hz1 _) hl hd).mono ?_
    rintro e w1 ⟨n', rfl, hl', hcn, hv, rfl⟩
    have hle : (n' : Int) ≤ 1048576 := by omega
    have HV := Lib.hid hv
    clear hv hz1 hb0
    go_wp2
    simp [bodyPost, results, Try.results69, go_sem]
    rw [← HV.out]
    refine ⟨_, _, _, _, rfl, ?_, (Below.refl _ _).alloc (Nat.le_refl _) _, rfl⟩
    first
      | exact num_of (neg := false) (by simp; omega) (by omega) (hz.take n') hcn ((Below.refl _ _).alloc (Nat.le_refl _) _) rfl
      | exact num_of (neg := true) (by simp; omega) (by omega) (hz.take n') hcn ((Below.refl _ _).alloc (Nat.le_refl _) _) (by simp)
theorem ints_of_owns {w : World} {base : Nat} {e : TypeId} {v : Value} {ds : List Int} (h : w.ownsRow base e 1 v ds.length (ds.map (Value.int .i64))) : ∃ a c, v = .slice a ds.length c ∧ ds.length ≤ c ∧ Ints .i64 w a ds ∧ Fresh base a := by
  have h2 := h.2
  rcases h2 with ⟨rfl, h0⟩ | ⟨g, cap, cur, rfl, hg, hgg, hle, hrest⟩
  · exact ⟨none, 0, by rw [h0], by omega, .inl (List.eq_nil_of_length_eq_zero h0), fun y hy => by cases hy⟩
  · refine ⟨_, _, rfl, hle, ?_, fun y hy => by cases hy; exact hg⟩
    by_cases hn : ds = []
    · exact .inl hn
    · have hc := h.cells (g := g) rfl
      have hlt := (h.lt g rfl).2
      refine .inr ⟨hn, g, 0, rfl, hlt, fun i hi => ?_⟩
      have := hc i (.int .i64 (ds.getD i 0)) (by simp [List.getD_eq_getElem?_getD, hi])
      rwa [WideShapes.add_plain] at this
theorem info_int : (Try.prog.info? 3).map (fun i => (i.zero, i.size, i.bytes)) = some (some (.int .i64 0), 1, 8) := by kernel_rfl
theorem pw19 : pw 19 = 10000000000000000000 := by decide
theorem of_len {l : List Int} {u : Int} (hu : 1 ≤ u) (h : dval l + pw l.length * u ≤ 9223372036854775808) (hd : Digs l) : l.length ≤ 18 := by
  refine Nat.le_of_not_lt fun hlt => ?_
  have h1 := pw_mono (a := 19) (b := l.length) hlt
  have h2 := dval_nonneg hd
  have h3 : pw l.length * 1 ≤ pw l.length * u := Int.mul_le_mul_of_nonneg_left hu (by have := pw_pos l.length; omega)
  rw [pw19] at h1
  omega
set_option maxRecDepth 100000 in
set_option maxHeartbeats 1000000 in
theorem of_any (n : Int) (w : World) (h : -9223372036854775808 ≤ n) (h' : n ≤ 9223372036854775807) :
    Calls Try.prog 50 #[.int .i64 n] w (NumRet (Fresh w.heap.size) n w) := by
  obtain ⟨i0, hi, hz0, hz1, hz2⟩ := info_parts info_int
  have hfin : sgnV (decide (n < 0)) (n.natAbs : Int) = n := by unfold sgnV; split <;> simp_all <;> omega
  have HF := Lib.hid hfin
  clear hfin
  have key : ∀ m : Int, 0 ≤ m → m = n.natAbs → m ≤ 9223372036854775808 →
      (if n < 0 then IntKind.u64.wrap (-IntKind.u64.wrap n) else IntKind.u64.wrap n) = m →
      Calls Try.prog 50 #[.int .i64 n] w (NumRet (Fresh w.heap.size) n w) := by
    intro m hm0 hm hm1 hmw
    have HW := Lib.hid hmw
    have HA := Lib.hid hm
    clear hmw hm
    by_cases hneg : n < 0
    all_goals
      have hw1 := HW.out
      simp only [hneg, if_true, if_false] at hw1
      clear HW
      go_enter Try.func50, Try.ntmps50
      go_wp2
      clear hw1
      go_loopw [3, 4] (fun u v wr => ∃ (x : Int) (l : List Int), 0 ≤ x ∧ x ≤ 9223372036854775808 ∧ u = .int .u64 x ∧ wr.ownsRow (w.heap.size + 1) 3 1 v l.length (l.map (Value.int .i64)) ∧ Digs l ∧ l.length ≤ 19 ∧ dval l + pw l.length * x = m ∧ Below (w.heap.size + 1) (w.alloc (.cells #[.bool false, .slice none 0 0] 81)) wr) (fun u _ _ => (intOf u).toNat)
      case atStart => exact ⟨m, [], hm0, hm1, rfl, World.ownsRow_nil _ _ _ _, fun _ h => (List.not_mem_nil h).elim, by simp, by simp [dval, pw_zero], Below.refl _ _⟩
      case round =>
        obtain ⟨x, l, hx, hxm, rfl, hown, hd, hl19, hv, hbel⟩ := hrel
        have hsz := hbel.size
        simp at hsz
        by_cases hx0 : 0 < x
        · have hlen := of_len (u := x) (by omega) (by omega) hd
          have hv' : dval (l ++ [x % 10]) + pw (l ++ [x % 10]).length * (x / 10) = m := by
            rw [dval_snoc, List.length_append, List.length_singleton, pw_succ, ← hv, Int.add_assoc, Int.mul_comm 10, Int.mul_assoc, ← Int.mul_add]
            congr 2; omega
          have hd' : Digs (l ++ [x % 10]) := hd.snoc (by omega) (by omega)
          have HV := Lib.hid hv'
          clear hv hv'
          have hq : IntKind.u64.wrap (x.tdiv 10) = x / 10 := by rw [Int.tdiv_eq_ediv_of_nonneg hx]; simp [IntKind.wrap, IntKind.bits, IntKind.signed]; omega
          go_wp2_with (at_builtin; refine wpList_append_own _ rfl _ _ 32 rfl (w.heap.size + 1) 3 i0 (.int .i64 0) 1 8 Try.underlying32 hi hz0 hz1 hz2 rfl (by decide) _ _ _ rfl (hown.alloc _) ⟨wr.heap.size, 0, none⟩ 1 1 [.int .i64 (x % 10)] rfl rfl ?c1 ?c2 ?c3 ?c4 ?c5 ?_)
          case c1 => exact cell_one_new _ _ _
          case c2 => simp [Value.oneCell']
          case c3 => unfold maxLen; omega
          case c4 => omega
          case c5 => simp; omega
          intro v' w1 hown1 hg1 _
          have hbel1 := (hbel.alloc (by omega) (.cells #[.int .i64 (x % 10)] 3)).grown hg1 (by simp; omega) (fun k hk => (hown.lt k hk).1)
          go_wp2
          go_roundw
          case rel => exact ⟨x / 10, l ++ [x % 10], by omega, by omega, rfl, by simpa using hown1, hd', by simp; omega, HV.out, hbel1⟩
          case measure => simp [intOf]; omega
        · have hx1 : x = 0 := by omega
          have hv' : dval l = m := by rw [← hv, hx1]; simp
          have hlen : l.length ≤ 1048576 := by omega
          obtain ⟨a, c, rfl, hlc, hints, hfr⟩ := ints_of_owns hown
          have HV := Lib.hid hv'
          clear hv hv' hx1
          go_wp2_with fail
          refine (sign_any _ a _ c l _ rfl hlc hints hlen hd).mono ?_
          rintro e w2 ⟨x2, a2, n2, c2, rfl, hnum, hb2, rfl⟩
          have hB := hbel.trans (hb2.mono hsz)
          obtain ⟨_, k0, k1, k2, k3⟩ := num_cell rfl hB
          rw [HV.out, HA.out] at hnum
          go_wp2
          obtain ⟨r1, r2⟩ := num_store rfl hB hnum
          simp [bodyPost, results, Try.results50, go_sem, k0, k1]
          refine ⟨_, _, _, _, rfl, ?_, r2, hfr.mono (by omega)⟩
          rw [← HF.out]
          simpa [hneg] using r1
  by_cases hneg : n < 0
  · exact key (-n) (by omega) (by omega) (by omega) (by simp [hneg, IntKind.wrap, IntKind.bits, IntKind.signed]; omega)
  · exact key n (by omega) (by omega) (by omega) (by simp [hneg, IntKind.wrap, IntKind.bits, IntKind.signed]; omega)
#print axioms of_any
end Go.Proofs.Ytapnkbamilkpoaa
