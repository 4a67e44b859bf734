/- DiskNames: the names that begin with any texts. The walk. -/
import Derived.Test.YtmepanbfknmieaaAwake6
import Derived.Test.YtmepanbfknmieaaTSame
namespace Go.Proofs.Ytmepanbfknmieaa
open Go.RowKit Go.Maps Go.Sort
/-- A name, as a string. -/
abbrev nmS (l : List UInt8) : ByteArray := ⟨l.toArray⟩
theorem nmS_at {ks : List (List UInt8)} {i : Nat} {s : ByteArray} (h : (ks.map nmS)[i]? = some s) : ∃ x, ks[i]? = some x ∧ s = nmS x := by
  rw [List.getElem?_map, Option.map_eq_some_iff] at h
  obtain ⟨x, hx, rfl⟩ := h
  exact ⟨x, hx, rfl⟩
theorem beginsB_take {nm : List UInt8} {fr : List ByteArray} {k : Nat} {f : ByteArray} (h : fr[k]? = some f) : beginsB nm (fr.take (k + 1)) = (beginsB nm (fr.take k) || Lib.hasPrefix nm f.data.toList) := by
  unfold beginsB
  rw [List.take_add_one, h, Option.toList_some, List.any_append]
  simp
theorem db_namesT {w0 w : World} {b : Nat} {M : DM} (h : DB w0 w b M) (a : Option Addr) (m c : Nat) (fr : List ByteArray) (hl : fr.length = m) (hmm : m ≤ 1048576) (hz : Texts w a fr) :
    Calls Try.prog 21 #[.pointer (some ⟨b, 0, none⟩), .slice a m c] w fun e w' => NamesRet w w' (namesM M.files fr) e ∧ Below w.heap.size w w' := by
  obtain ⟨⟨S, ⟨mb, L, hd⟩, h2⟩, h3⟩ := id h
  exact hd.names a m c fr hl hmm hz
theorem DB.keys {w0 w : World} {b : Nat} {M : DM} (h : DB w0 w b M) : M.files.length ≤ 100 ∧ (M.files.map (·.1)).Pairwise (fun x y => bytesBefore x y = true) := by
  obtain ⟨⟨S, ⟨mb, L, hd⟩, h2⟩, h3⟩ := h
  refine ⟨hd.fine.2.1, ?_⟩
  rw [List.pairwise_map]
  exact hd.fine.1
theorem bl_before : ∀ x y : List UInt8, Op.bytesLess x y = bytesBefore x y
  | [], [] => rfl
  | [], _ :: _ => rfl
  | _ :: _, [] => rfl
  | a :: r, b :: s => by rw [Op.bytesLess, bytesBefore, bl_before r s]
theorem not_leq {x y : List UInt8} (h : bytesBefore y x = true) : Op.bytesLess (nmS x).toList (nmS y).toList = false ∧ ((nmS x).toList == (nmS y).toList) = false := by
  rw [ByteArray.toList_eq, ByteArray.toList_eq]
  refine ⟨?_, beq_false_of_ne (fun e => ?_)⟩
  · rw [bl_before]
    cases hb : bytesBefore x y with
    | false => rfl
    | true =>
      have := bb_trans h hb
      rw [WideAt.bytes_irrefl] at this
      cases this
  · have e : x = y := e
    rw [e, WideAt.bytes_irrefl] at h
    cases h
theorem keys_step {ks : List (List UInt8)} (h : ks.Pairwise (fun x y => bytesBefore x y = true)) {i : Nat} {x y : List UInt8} (hx : ks[i + 1]? = some x) (hy : ks[i]? = some y) : bytesBefore y x = true := by
  rw [List.pairwise_iff_getElem] at h
  obtain ⟨h1, h2⟩ := List.getElem?_eq_some_iff.1 hx
  obtain ⟨h3, h4⟩ := List.getElem?_eq_some_iff.1 hy
  have := h i (i + 1) h3 h1 (by omega)
  rw [h2, h4] at this
  exact this
set_option maxRecDepth 100000 in
set_option maxHeartbeats 4000000 in
theorem names_walk (v0 : Value) (ls : List ByteArray) (v1 : Value) (fr : List ByteArray) (w : World) (y0 : TArg w v0 ls) (y1 : TArg w v1 fr) :
    Calls Try.prog 4 #[v0, v1] w fun e w' => e = .returned (.bool true) ∧ Below w.heap.size w w' := by
  obtain ⟨la, lm, lc, rfl, hll, hlc, hlm, hlt, hls⟩ := y0
  obtain ⟨fa, fm, fc, rfl, hfl, hfc, hfm, hft, hfs⟩ := y1
  have HA := Lib.hid (fun w => awake6 w)
  by_cases h1 : 30 < lm
  · have d1 : decide ((30 : Int) < (lm : Int)) = true := decide_eq_true (by omega)
    clear hlt hls hft hfs
    go_enter Try.func4, Try.ntmps4
    go_wp2_with fail
    refine (HA.out _).mono ?_
    rintro e w1 ⟨rfl, hb1⟩
    go_wp2
    go_ret
    exact ⟨rfl, hb1⟩
  have d1 : decide ((30 : Int) < (lm : Int)) = false := decide_eq_false (by omega)
  by_cases h2 : 10 < fm
  · have d2 : decide ((10 : Int) < (fm : Int)) = true := decide_eq_true (by omega)
    clear hlt hls hft hfs
    go_enter Try.func4, Try.ntmps4
    go_wp2_with fail
    refine (HA.out _).mono ?_
    rintro e w1 ⟨rfl, hb1⟩
    go_wp2
    go_ret
    exact ⟨rfl, hb1⟩
  have d2 : decide ((10 : Int) < (fm : Int)) = false := decide_eq_false (by omega)
  obtain ⟨i0, hi, hz0, hz1, hz2⟩ := info_parts info_txt
  have HLL := Lib.hid hll
  have HLT := Lib.hid hlt
  have HFL := Lib.hid hfl
  have HFT := Lib.hid hft
  have hl30 : lm ≤ 30 := by omega
  have hf10 : fm ≤ 10 := by omega
  clear hll hlt hls hfl hft hfs h1 h2 hlm hfm
  go_enter Try.func4, Try.ntmps4
  go_wp2_with fail
  refine (HA.out _).mono ?_
  rintro e w1 ⟨rfl, hb1⟩
  have HB1 := Lib.hid hb1
  have HN := Lib.hid (db_new 1000 (by omega) (by omega) w1)
  clear hb1 HA
  go_wp2_with fail
  refine HN.out.mono ?_
  rintro e w2 ⟨rfl, h2⟩
  have H2 := Lib.hid h2
  clear h2 HN
  go_wp2
  go_loopw [6] (fun iv wr => ∃ (i : Nat) (M : DM), i ≤ lm ∧ iv = .int .i64 (i : Int) ∧ Hid (DB w1 wr w1.heap.size M)) (fun iv _ => lm - (intOf iv).toNat)
  case atStart => exact ⟨0, _, Nat.zero_le _, rfl, H2⟩
  case round =>
    obtain ⟨i, M, hi2, rfl, hdb⟩ := hrel
    have HBR := Lib.hid (Below.thenB HB1.out HB1.out.size hdb.out.bel)
    by_cases hlt : i < lm
    · have hlt' : decide ((i : Int) < (lm : Int)) = true := decide_eq_true (by omega)
      have hk0 : (0 : Int) ≤ (i : Int) := by omega
      have hk1 : (i : Int) < (lm : Int) := by omega
      obtain ⟨bs, o, s, rfl, hbs, hsk, s0⟩ := texts_at HLT.out HLL.out hlt HBR.out
      by_cases h100 : 100 < s.size
      · have e1 : decide ((100 : Int) < (s.size : Int)) = true := decide_eq_true (by omega)
        clear hsk hdb
        go_wp2
        go_ret
        exact ⟨rfl, HBR.out⟩
      · have e1 : decide ((100 : Int) < (s.size : Int)) = false := decide_eq_false (by omega)
        have C1 := Lib.hid (db_append hdb.out s (by omega) #[.string ⟨#[120]⟩] [⟨#[120]⟩] 1 rfl (by omega) rfl (fun x hx => by simp at hx; subst hx; decide))
        clear hsk hdb h100
        go_wp2_with fail
        refine C1.out.mono ?_
        rintro e w3 ⟨rfl, h3⟩
        have H3 := Lib.hid h3
        clear h3 C1
        go_wp2
        go_roundw
        case rel => exact ⟨i + 1, _, by omega, by go_num, H3⟩
        case measure => simp [intOf]; omega
    · have hlt' : decide ((i : Int) < (lm : Int)) = false := decide_eq_false (by omega)
      have HDB := Lib.hid hdb.out
      have C1 := Lib.hid (db_namesT hdb.out none 0 0 [] rfl (by omega) (.inl rfl))
      rw [names_nil] at C1
      obtain ⟨hn100, hpw⟩ := hdb.out.keys
      obtain ⟨ks, hks⟩ : ∃ ks, ks = M.files.map (·.1) := ⟨_, rfl⟩
      have hnm : namesM M.files fr = ks.filter (wantB fr) := by rw [hks]; rfl
      rw [← hks] at C1 hpw
      have hkl : ks.length ≤ 100 := by rw [hks, List.length_map]; exact hn100
      obtain ⟨N, hN⟩ : ∃ N, N = ks.length := ⟨_, rfl⟩
      rw [← hN] at hkl
      have HKL := Lib.hid hN.symm
      have HPW := Lib.hid hpw
      have HNM := Lib.hid hnm
      clear hdb hn100 hpw hnm hks hN
      go_wp2_with fail
      refine C1.out.mono ?_
      rintro e w3 ⟨⟨na, nc, rfl, hnr⟩, hb3⟩
      rw [HKL.out] at hnr ⊢
      have hnr' : w3.ownsRow wr.heap.size 9 1 (.slice na ks.length nc) ks.length (ks.map encStr) := by rw [HKL.out]; exact hnr
      obtain ⟨htx, _⟩ := own_names hnr'
      have HTX := Lib.hid htx
      have HDB3 := Lib.hid (HDB.out.below hb3)
      have HB3 := Lib.hid (Below.thenB HBR.out HBR.out.size hb3)
      clear hb3 hnr hnr' htx C1 HDB HBR
      go_wp2
      go_loopw [8, 9] (fun wv iv w5 => ∃ (i n : Nat) (va : Option Addr) (vc : Nat), i ≤ N ∧ iv = .int .i64 (i : Int) ∧ wv = .slice va n vc ∧ n ≤ i ∧ Hid (w5.ownsRow w3.heap.size 9 1 (.slice va n vc) n (((ks.take i).filter (wantB fr)).map encStr)) ∧ Hid (Below w3.heap.size w3 w5)) (fun _ iv _ => N - (intOf iv).toNat)
      case atStart => exact ⟨0, 0, none, 0, Nat.zero_le _, rfl, rfl, Nat.le_refl _, Lib.hid (World.ownsRow_nil _ _ _ _), Lib.hid (Below.refl _ _)⟩
      case round =>
        obtain ⟨i, n, va, vc, hi3, rfl, rfl, hni, hown, hb5⟩ := hrel
        rename World => w5
        by_cases hlt : i < N
        · have hlt' : decide ((i : Int) < (N : Int)) = true := decide_eq_true (by omega)
          have hk0 : (0 : Int) ≤ (i : Int) := by omega
          have hk1 : (i : Int) < (N : Int) := by omega
          obtain ⟨bs, o, s, rfl, hbs, hsk, s0⟩ := texts_at HTX.out (by rw [List.length_map]; exact HKL.out) hlt hb5.out
          obtain ⟨x, hx, hsx⟩ := nmS_at hsk
          have hs8 : s.data.toList = x := by rw [hsx]
          have HX := Lib.hid hx
          have HSX := Lib.hid hsx
          have HS8 := Lib.hid hs8
          obtain ⟨t0, ht0⟩ : ∃ t0, t0 = fr.isEmpty := ⟨_, rfl⟩
          have he0 : decide ((fm : Int) = 0) = t0 := by
            rw [ht0, ← HFL.out]
            cases fr <;> simp <;> omega
          have he1 : ((fm : Int) == 0) = t0 := he0
          have HT0 := Lib.hid ht0
          clear hsk hx hsx hs8 ht0
          go_wp2
          go_loopw [10, 11] (fun bv kv w6 => ∃ (k : Nat) (t : Bool), k ≤ fm ∧ kv = .int .i64 (k : Int) ∧ bv = .bool t ∧ Hid (t = (fr.isEmpty || beginsB x (fr.take k))) ∧ Hid (Below w5.heap.size w5 w6)) (fun _ kv _ => fm - (intOf kv).toNat)
          case atStart => exact ⟨0, t0, Nat.zero_le _, rfl, rfl, Lib.hid (by rw [HT0.out]; simp [beginsB]), Lib.hid (Below.refl _ _)⟩
          case round =>
            obtain ⟨k, t, hk, rfl, rfl, ht, hb6⟩ := hrel
            rename World => w6
            by_cases hkt : k < fm
            · have hkt' : decide ((k : Int) < (fm : Int)) = true := decide_eq_true (by omega)
              have hj0 : (0 : Int) ≤ (k : Int) := by omega
              have hj1 : (k : Int) < (fm : Int) := by omega
              have hb36 := Below.thenB hb5.out hb5.out.size hb6.out
              have s6 : w6.cell? ⟨bs, o + i, none⟩ = some (.string s) := (hb6.out.cell (p := ⟨bs, o + i, none⟩) (Nat.lt_of_lt_of_le hbs hb5.out.size)).trans s0
              obtain ⟨fb, fo, f, rfl, hfb, hfk, f0⟩ := texts_at HFT.out HFL.out hkt (Below.thenB HB3.out HB3.out.size hb36)
              have hbt := beginsB_take (nm := x) hfk
              have hpr := Lib.hasPrefix_raw s f
              rw [HS8.out] at hpr
              have hfin : ∀ n, Below w5.heap.size w5 (w6.drewN n) := fun n => bdrewN hb6.out n
              have HFIN := Lib.hid hfin
              have HBT := Lib.hid hbt
              have HTT := Lib.hid ht.out
              clear hb36 hfk hbt hfin hb6 ht
              cases t with
              | true =>
                have HR := Lib.hid (show true = (fr.isEmpty || beginsB x (fr.take (k + 1))) by
                  rw [HBT.out, ← Bool.or_assoc, ← HTT.out]; rfl)
                clear hpr HBT HTT
                go_wp2_with fail
                go_quiet (fail)
                go_wp2
                go_roundw
                case rel => exact ⟨k + 1, true, by omega, by go_num, rfl, HR, Lib.hid (HFIN.out _)⟩
                case measure => simp [intOf]; omega
              | false =>
                obtain ⟨p, hp⟩ : ∃ p, p = Lib.hasPrefix x f.data.toList := ⟨_, rfl⟩
                have HR := Lib.hid (show p = (fr.isEmpty || beginsB x (fr.take (k + 1))) by
                  rw [HBT.out, ← Bool.or_assoc, ← HTT.out, hp]; rfl)
                rw [← hp] at hpr
                clear hp HBT HTT
                by_cases hsz : f.size ≤ s.size
                · have q1 : decide ((f.size : Int) ≤ (s.size : Int)) = true := decide_eq_true (by omega)
                  have q2 : ((s.extract 0 f.size).toList == f.toList) = p := by
                    rw [← hpr, decide_eq_true hsz]; rfl
                  have q3 : (f.size : Int) ≤ (s.size : Int) := by omega
                  clear hpr
                  go_wp2_with fail
                  go_quiet (fail)
                  go_wp2
                  go_roundw
                  case rel => exact ⟨k + 1, p, by omega, by go_num, rfl, HR, Lib.hid (HFIN.out _)⟩
                  case measure => simp [intOf]; omega
                · have q1 : decide ((f.size : Int) ≤ (s.size : Int)) = false := decide_eq_false (by omega)
                  have hpf : p = false := by rw [← hpr, decide_eq_false hsz]; rfl
                  subst hpf
                  clear hpr
                  go_wp2_with fail
                  go_quiet (fail)
                  go_wp2
                  go_roundw
                  case rel => exact ⟨k + 1, false, by omega, by go_num, rfl, HR, Lib.hid (HFIN.out _)⟩
                  case measure => simp [intOf]; omega
            · have hkt' : decide ((k : Int) < (fm : Int)) = false := decide_eq_false (by omega)
              rename World => w6
              have HT := Lib.hid (show t = wantB fr x by
                have := ht.out
                rw [List.take_of_length_le (by rw [HFL.out]; omega)] at this
                exact this)
              have hb36 := Below.thenB hb5.out hb5.out.size hb6.out
              have hown6 := own1_below hown.out hb6.out
              have s6 : w6.cell? ⟨bs, o + i, none⟩ = some (.string s) := (hb6.out.cell (p := ⟨bs, o + i, none⟩) (Nat.lt_of_lt_of_le hbs hb5.out.size)).trans s0
              clear ht hown s0 he0 he1
              cases t with
              | false =>
                have HFL2 := Lib.hid (show (ks.take (i + 1)).filter (wantB fr) = (ks.take i).filter (wantB fr) by
                  rw [List.take_add_one, HX.out, Option.toList_some, List.filter_append]
                  simp [← HT.out])
                have HOWN := Lib.hid (show w6.ownsRow w3.heap.size 9 1 (.slice va n vc) n (((ks.take (i + 1)).filter (wantB fr)).map encStr) by rw [HFL2.out]; exact hown6)
                have HBE := Lib.hid hb36
                clear hown6 hb36 hb5 hb6 HFL2
                by_cases hi0 : i = 0
                · subst hi0
                  go_wp2_with fail
                  go_quiet (fail)
                  go_wp2
                  go_roundw
                  case rel => exact ⟨1, n, va, vc, by omega, by go_num, rfl, by omega, HOWN, Lib.hid (bdrewN HBE.out _)⟩
                  case measure => simp [intOf]; omega
                · obtain ⟨j, rfl⟩ : ∃ j, i = j + 1 := ⟨i - 1, by omega⟩
                  obtain ⟨bs', o', s', hae, _, hsk', s0'⟩ := texts_at HTX.out (by rw [List.length_map]; exact HKL.out) (by omega : j < N) HBE.out
                  injection hae with hae
                  injection hae with hae1 hae2
                  subst hae1
                  subst hae2
                  obtain ⟨x', hx', hsx'⟩ := nmS_at hsk'
                  obtain ⟨q1, q2⟩ : Op.bytesLess (s).toList s'.toList = false ∧ ((s).toList == s'.toList) = false := by
                    have := not_leq (keys_step HPW.out HX.out hx')
                    rw [hsx']
                    first | exact this | (rw [HSX.out]; exact this)
                  have hj0 : (0 : Int) ≤ (j : Int) := by omega
                  have hj1 : (j : Int) < (N : Int) := by omega
                  have hj2 : decide ((0 : Int) < (j : Int) + 1) = true := decide_eq_true (by omega)
                  have hj3 : (j : Int) + 1 < (N : Int) := by omega
                  clear hsk' hx' hsx' hi0
                  go_wp2_with fail
                  go_quiet (fail)
                  go_wp2
                  go_roundw
                  case rel => exact ⟨j + 1 + 1, n, va, vc, by omega, by go_num, rfl, by omega, HOWN, Lib.hid (bdrewN HBE.out _)⟩
                  case measure => simp [intOf]; omega
              | true =>
                have HFL2 := Lib.hid (show (ks.take (i + 1)).filter (wantB fr) = (ks.take i).filter (wantB fr) ++ [x] by
                  rw [List.take_add_one, HX.out, Option.toList_some, List.filter_append]
                  simp [← HT.out])
                have hrowA := hown6.alloc (.cells #[.string s] 9)
                have hbelA := hb36.alloc hb36.size (.cells #[.string s] 9)
                have hzA := hb36.size
                have HLOW := Lib.hid (fun j hj => (hrowA.lt j hj).1)
                have HBELA := Lib.hid hbelA
                clear hbelA hb36 hb5 hb6 hown6
                go_wp2_with (first
                  | (at_builtin; refine wpList_append_own _ rfl (.tmp 94) (.tmp 99) 31 rfl w3.heap.size 9 i0 (.string ⟨#[]⟩) 1 16 Try.underlying31 hi hz0 hz1 hz2 rfl (by decide) (.slice va n vc) n (((ks.take i).filter (wantB fr)).map encStr) rfl hrowA ⟨w6.heap.size, 0, none⟩ 1 1 [.string s] rfl rfl (one_cell_new _ _ _) (by simp [Value.oneCell']) (by unfold maxLen; omega) (by omega) (by simp; omega) ?_; intro v' w7 hown' hg7 hnil7; go_frame)
                  | fail)
                have hbel7 := HBELA.out.grown hg7 (by simp; omega) (fun j hj => HLOW.out j hj)
                obtain ⟨va', vc', rfl⟩ : ∃ a c, v' = .slice a (n + 1) c := by
                  rcases hown'.2 with ⟨hv, h0⟩ | ⟨g, cap, cur, hv, _⟩
                  · omega
                  · exact ⟨_, _, hv⟩
                have HOWN := Lib.hid (show w7.ownsRow w3.heap.size 9 1 (.slice va' (n + 1) vc') (n + 1) (((ks.take (i + 1)).filter (wantB fr)).map encStr) by rw [HFL2.out, List.map_append]; rw [HSX.out] at hown'; exact hown')
                have HBE := Lib.hid hbel7
                obtain ⟨_, _, s7, hae7, _, hsk7, c7⟩ := texts_at HTX.out (by rw [List.length_map]; exact HKL.out) hlt hbel7
                injection hae7 with hae7
                injection hae7 with hae71 hae72
                subst hae71
                subst hae72
                have hs7 : s = s7 := by
                  rw [List.getElem?_map, HX.out] at hsk7
                  injection hsk7 with hsk7
                  rw [HSX.out]; exact hsk7
                subst hs7
                clear hown' hg7 hnil7 hrowA hbel7 HFL2 hsk7 s6
                by_cases hi0 : i = 0
                · subst hi0
                  go_wp2_with fail
                  go_quiet (fail)
                  go_wp2
                  go_roundw
                  case rel => exact ⟨1, n + 1, va', vc', by omega, by go_num, rfl, by omega, HOWN, Lib.hid (bdrewN HBE.out _)⟩
                  case measure => simp [intOf]; omega
                · obtain ⟨j, rfl⟩ : ∃ j, i = j + 1 := ⟨i - 1, by omega⟩
                  obtain ⟨bs', o', s', hae, _, hsk', s0'⟩ := texts_at HTX.out (by rw [List.length_map]; exact HKL.out) (by omega : j < N) HBE.out
                  injection hae with hae
                  injection hae with hae1 hae2
                  subst hae1
                  subst hae2
                  obtain ⟨x', hx', hsx'⟩ := nmS_at hsk'
                  obtain ⟨q1, q2⟩ : Op.bytesLess (s).toList s'.toList = false ∧ ((s).toList == s'.toList) = false := by
                    have := not_leq (keys_step HPW.out HX.out hx')
                    rw [hsx']
                    first | exact this | (rw [HSX.out]; exact this)
                  have hj0 : (0 : Int) ≤ (j : Int) := by omega
                  have hj1 : (j : Int) < (N : Int) := by omega
                  have hj2 : decide ((0 : Int) < (j : Int) + 1) = true := decide_eq_true (by omega)
                  have hj3 : (j : Int) + 1 < (N : Int) := by omega
                  clear hsk' hx' hsx' hi0
                  go_wp2_with fail
                  go_quiet (fail)
                  go_wp2
                  go_roundw
                  case rel => exact ⟨j + 1 + 1, n + 1, va', vc', by omega, by go_num, rfl, by omega, HOWN, Lib.hid (bdrewN HBE.out _)⟩
                  case measure => simp [intOf]; omega
        · have hlt' : decide ((i : Int) < (N : Int)) = false := decide_eq_false (by omega)
          rename World => w5
          obtain rfl : i = N := by omega
          have hki : ks.take i = ks := List.take_of_length_le (by rw [HKL.out]; exact Nat.le_refl _)
          rw [hki] at hown
          have HD5 := HDB3.out.below hb5.out
          have HB5 := Lib.hid (Below.thenB HB3.out HB3.out.size hb5.out)
          have C2 := Lib.hid (db_namesT HD5 fa fm fc fr HFL.out (by omega) (HFT.out.below HB5.out))
          rw [HNM.out] at C2
          clear hki HD5
          go_wp2_with fail
          refine C2.out.mono ?_
          rintro e w8 ⟨⟨na2, nc2, rfl, hnr2⟩, hb8⟩
          have hwl : ((ks.filter (wantB fr)).map nmS).length = n := by
            have := hown.out.1
            rw [List.length_map] at this ⊢
            omega
          have hown8 := own1_below hown.out hb8
          have hwn : w8.ownsRow w3.heap.size 9 1 (.slice va (ks.filter (wantB fr)).length vc) (ks.filter (wantB fr)).length ((ks.filter (wantB fr)).map encStr) := by
            rw [List.length_map] at hwl
            rw [hwl]; exact hown8
          obtain ⟨hwt, _⟩ := own_names hwn
          obtain ⟨hnt, _⟩ := own_names hnr2
          have hnn : (ks.filter (wantB fr)).length = n := by rw [List.length_map] at hwl; exact hwl
          rw [hnn] at hnr2 ⊢
          have C3 := Lib.hid (tsame_any na2 va n nc2 n vc _ _ w8 hwl hwl (by omega) (by omega) hnt hwt)
          rw [show tsame ((ks.filter (wantB fr)).map nmS) ((ks.filter (wantB fr)).map nmS) = true from decide_eq_true rfl] at C3
          have HB8 := Lib.hid (Below.thenB HB5.out HB5.out.size hb8)
          clear hwl hown8 hwn hwt hnt hnn hnr2 hb8 hown hb5 C2
          go_wp2_with fail
          refine C3.out.mono ?_
          rintro e w9 ⟨rfl, hb9⟩
          have HB9 := Lib.hid (Below.thenB HB8.out HB8.out.size hb9)
          clear hb9
          go_wp2
          go_ret
          exact ⟨rfl, HB9.out⟩
end Go.Proofs.Ytmepanbfknmieaa
