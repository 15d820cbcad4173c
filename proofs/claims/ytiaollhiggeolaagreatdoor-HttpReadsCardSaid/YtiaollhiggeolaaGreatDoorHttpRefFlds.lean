/-
  THE WALK OF THE REFERENCE OF LAYER http: Fields.
-/
import Derived.Test.YtiaollhiggeolaaGreatDoorHttpRefHead
import Derived.Test.YtiaollhiggeolaaGreatDoorHttpRefAsk
import Derived.Test.YtiaollhiggeolaaGreatDoorCharRefNum
set_option linter.unusedVariables false
namespace Go.Proofs.YtiaollhiggeolaaGreatDoor.Ht
open Go.Lib Go.RowKit Go.Shelf

theorem refCut1 (c : UInt8) (s : ByteArray) (w : World) (hs : s.size ≤ 9223372036854775807) : Calls Tryz.prog 15 #[.string s, .int .u8 (c.toNat : Int)] w fun e w' => (∃ a r b, e = .returned (.tuple #[.string a, .string r, .bool b]) ∧ Cut1 c s a r b) ∧ Below w.heap.size w w' := by
  refine (refCut_any s c w hs).mono ?_
  rintro e w' ⟨rfl, hb⟩
  refine ⟨?_, hb⟩
  unfold CutR
  cases hc : cutB c s.data.toList with
  | none => exact ⟨s, ⟨#[]⟩, false, rfl, Nat.le_refl _, Nat.zero_le _, .inr ⟨rfl, hc, rfl, rfl⟩⟩
  | some p =>
    obtain ⟨a, ha, da⟩ := sv_some p.1
    obtain ⟨r, hr, dr⟩ := sv_some p.2
    have e := cut_parts hc
    refine ⟨a, r, true, by rw [← ha, ← hr], ?_, ?_, .inl ⟨rfl, by rw [hc, da, dr]⟩⟩
    · rw [Lib.size_eq, Lib.size_eq, e, da]; simp
    · rw [Lib.size_eq, Lib.size_eq, e, dr]; simp; omega
where
  cut_parts {c : UInt8} : ∀ {l : Row} {p : Row × Row}, cutB c l = some p → l = p.1 ++ c :: p.2
    | [], p, h => by simp [cutB] at h
    | x :: l, p, h => by
      rw [cutB] at h
      split at h
      · rename_i hx
        obtain rfl := Option.some.inj h
        rw [hx]; rfl
      · cases hf : cutB c l with
        | none => rw [hf] at h; cases h
        | some q =>
          rw [hf] at h
          obtain rfl := Option.some.inj h
          show x :: l = x :: (q.1 ++ c :: q.2)
          rw [← cut_parts hf]
/-- what Fields answers -/
def FldsRP (B : Nat) (rows : List Row) (e : Ending) (w' : World) : Prop :=
  (∃ (fs : List Fd) (n : Nat) (v : Value), fields rows = some (fs, n) ∧ n ≤ 65536 ∧ e = .returned (.tuple #[v, .int .i64 (n : Int), .bool true]) ∧ FsOwn B v fs w') ∨
  (fields rows = none ∧ ∃ (v : Value) (z : Int), e = .returned (.tuple #[v, .int .i64 z, .bool false]))
def lenI (l : Option Nat) : Int := match l with
  | none => -1
  | some x => (x : Int)
theorem lenI_max (l : Option Nat) : max (lenI l) 0 = (lenV l : Int) := by
  cases l with
  | none => rfl
  | some x => show max (x : Int) 0 = (x : Int); omega
theorem beq_list (x : ByteArray) (l : Row) (r : Row) (h : x.data.toList = r) : (x.toList == l) = (r == l) := by rw [Lib.toList_data, h]
set_option maxHeartbeats 8000000 in
set_option maxRecDepth 100000 in
theorem refFields_any (v0 : Value) (rows : List Row) (w : World) (h0 : SsAt w v0 rows) (hsz : ∀ r ∈ rows, r.length ≤ 8192) (hrn : rows.length ≤ 1099511627776) : Calls Tryz.prog 16 #[v0] w fun e w' => FldsRP w.heap.size rows e w' ∧ Below w.heap.size w w' := by
  obtain ⟨A, b, off, c, rfl, hc1, hc2, hA, hcell⟩ := h0
  obtain ⟨N, hN⟩ : ∃ N, rows.length = N := ⟨_, rfl⟩
  rw [hN] at hc1 hA hrn ⊢
  unfold maxLen at hc2
  have hno : Hid (flds none rows = none → ∀ W, FldsRP w.heap.size rows (.returned (.tuple #[.slice none 0 0, .int .i64 0, .bool false])) W) := Lib.hid fun h W => .inr ⟨by unfold fields; split; rfl; rw [h]; rfl, _, _, rfl⟩
  have hyes : Hid (∀ (l : Option Nat) (acc : List Fd) (v : Value) (W : World), flds none rows = some (acc, l) → (∀ x, l = some x → x ≤ 65536) → FsOwn w.heap.size v acc W → FldsRP w.heap.size rows (.returned (.tuple #[v, .int .i64 (lenV l : Int), .bool (decide ((N : Int) ≤ 32))])) W) := Lib.hid fun l acc v W h hl ho => by
    by_cases hb : N ≤ 32
    · refine .inl ⟨acc, lenV l, v, by unfold fields; rw [if_neg (by omega), h]; rfl, ?_, by rw [decide_eq_true (by omega)], ho⟩
      unfold lenV
      cases l with
      | none => exact Nat.zero_le _
      | some x => exact hl x rfl
    · exact .inr ⟨by unfold fields; rw [if_pos (by omega)], v, (lenV l : Int), by rw [decide_eq_false (by omega)]⟩
  have hN' := Lib.hid hN
  have hA' := Lib.hid hA
  have hcell' := Lib.hid hcell
  have hsz' := Lib.hid hsz
  clear hN hA hcell hsz
  go_enter Tryz.func16, Tryz.ntmps16
  go_wp2
  go_loopw [5, 6, 17] (fun s5 s6 s17 wr => ∃ (k : Nat) (l : Option Nat) (acc : List Fd), s17 = .int .i64 (k : Int) ∧ k ≤ N ∧ s6 = .int .i64 (lenI l) ∧ FsOwn w.heap.size s5 acc wr ∧ acc.length ≤ k ∧ Below w.heap.size w wr ∧ (∀ x, l = some x → x ≤ 65536) ∧ More rows k l acc) (fun s5 s6 s17 wr => N - (RowKit.intOf s17).toNat)
  case atStart => exact ⟨0, none, [], rfl, Nat.zero_le _, rfl, FsOwn.nil _ _, Nat.zero_le _, Below.refl _ _, (fun x h => by cases h), more_start rows⟩
  case round =>
    obtain ⟨k, l, acc, rfl, hk, rfl, hown, hal, hbr, hl6, hmore⟩ := hrel
    have hmore' := Lib.hid hmore
    have hl6' := Lib.hid hl6
    have hbr' := Lib.hid hbr
    obtain ⟨ao, cap, rfl⟩ := hown.form
    obtain ⟨na, hna⟩ : ∃ na, acc.length = na := ⟨_, rfl⟩
    rw [hna] at hown ⊢
    have hna' := Lib.hid hna
    have hown' := Lib.hid hown
    obtain ⟨L, hL⟩ : ∃ L, lenI l = L := ⟨_, rfl⟩
    rw [hL]
    have hL' := Lib.hid hL
    clear hmore hl6 hna hL
    by_cases hlt : k < N
    · have hr : rows[k]? = some (rows[k]'(by have := hN'.out; omega)) := List.getElem?_eq_getElem _
      obtain ⟨R, hR⟩ : ∃ R, rows[k]'(by have := hN'.out; omega) = R := ⟨_, rfl⟩
      rw [hR] at hr
      have hRz := hsz'.out R (by rw [← hR]; exact List.getElem_mem _)
      obtain ⟨rfl, hg⟩ := hA'.out (by omega)
      have hc := hcell'.out k R hr
      rw [← hbr.cell (p := ⟨b, off + k, none⟩) hg] at hc
      obtain ⟨x, e1, d1⟩ := sv_some R
      rw [e1] at hc
      have hxz : x.size ≤ 8192 := by rw [Lib.size_eq, d1]; exact hRz
      have cC : Calls Tryz.prog 15 #[.string x, .int .u8 58] wr _ := refCut1 58 x wr (by omega)
      have hr' := Lib.hid hr
      have d1' := Lib.hid d1
      clear hr hR e1 d1 hRz hown hbr
      go_wp2_with fail
      go_at_call 15
      with_reducible refine cC.mono ?_
      rintro e w1 ⟨⟨n, q, ok, rfl, hcut⟩, hb1⟩
      have hnz := hcut.1
      have hqz := hcut.2.1
      have hcut' := Lib.hid hcut.2.2
      have hB1 := Lib.hid (below_then hbr'.out hb1)
      have hO1 := Lib.hid (hown'.out.kept hb1)
      have cT := refTrim_any q w1 (by omega)
      obtain ⟨v, hv, dv⟩ := sv_some (trim q.data.toList)
      rw [hv] at cT
      have hvz : v.size ≤ 8192 := by
        have := trim_len q.data.toList
        rw [Lib.size_eq, dv]
        rw [← Lib.size_eq] at this
        omega
      have dv' := Lib.hid dv
      clear cC hcut hb1 hbr' hown' hc hv dv
      go_wp2_with fail
      go_at_call 30
      with_reducible refine cT.mono ?_
      rintro e w2 ⟨rfl, rfl⟩
      have cL := Ch.refLower_any n w2 (by omega)
      obtain ⟨lw, hlw⟩ : ∃ lw : ByteArray, (⟨(Ch.low n.data.toList).toArray⟩ : ByteArray) = lw := ⟨_, rfl⟩
      have hlwd : lw.toList = Ch.low n.data.toList := by rw [← hlw, Lib.toList_data]
      rw [hlw] at cL
      clear cT hlw
      go_wp2_with fail
      go_at_call 31
      with_reducible refine cL.mono ?_
      rintro e w3 ⟨rfl, hb3⟩
      have hB3 := Lib.hid (below_then hB1.out hb3)
      have hO3 := Lib.hid (hO1.out.kept hb3)
      clear cL hb3 hB1 hO1
      -- what the row is
      have cN := refName_any n w3 (by omega)
      have cV : Calls Tryz.prog 20 #[.string v, .int .u8 32, .int .u8 126, .bool true] w3 _ := refRange_any v 32 126 true w3 (by decide) (by decide) (by omega)
      obtain ⟨I, hI⟩ : ∃ R, nmB n.data.toList = R := ⟨_, rfl⟩
      obtain ⟨V, hV⟩ : ∃ R, rng 32 126 true v.data.toList = R := ⟨_, rfl⟩
      obtain ⟨C, hC⟩ : ∃ R, (Ch.low n.data.toList == teS) = R := ⟨_, rfl⟩
      obtain ⟨D, hD⟩ : ∃ R, (Ch.low n.data.toList == clS) = R := ⟨_, rfl⟩
      rw [hI] at cN
      rw [hV] at cV
      have l2 : (lw.toList == [116, 114, 97, 110, 115, 102, 101, 114, 45, 101, 110, 99, 111, 100, 105, 110, 103]) = C := by rw [hlwd]; exact hC
      have l1 : (lw.toList == [99, 111, 110, 116, 101, 110, 116, 45, 108, 101, 110, 103, 116, 104]) = D := by rw [hlwd]; exact hD
      have l3 : (lw.toList != [99, 111, 110, 116, 101, 110, 116, 45, 108, 101, 110, 103, 116, 104]) = !D := by rw [bne, l1]
      have l4 : decide (lw.toList = [99, 111, 110, 116, 101, 110, 116, 45, 108, 101, 110, 103, 116, 104]) = D := by rw [← l1, Bool.eq_iff_iff, decide_eq_true_iff, beq_iff_eq]
      have hI' := Lib.hid hI
      have hV' := Lib.hid hV
      have hC' := Lib.hid hC
      have hD' := Lib.hid hD
      clear hI hV hC hD hlwd
      have hbadd : Hid ((∀ p, cutB 58 R = some p → ¬ (nmB p.1 = true ∧ rng 32 126 true (trim p.2) = true)) → ∀ W, FldsRP w.heap.size rows (.returned (.tuple #[.slice none 0 0, .int .i64 0, .bool false])) W) := Lib.hid fun h => hno.out (more_bad hmore'.out hr'.out (flds_bad h))
      cases ok with
      | false =>
        have hX := Lib.hid (hbadd.out (fun p hp => by
          rcases hcut'.out with ⟨h, _⟩ | ⟨_, h, _, _⟩
          · cases h
          · rw [← d1'.out, h] at hp; cases hp))
        go_wp2
        go_ret3
        exact ⟨hX.out _, hB3.out⟩
      | true =>
      have hcc : Hid (cutB 58 R = some (n.data.toList, q.data.toList)) := Lib.hid (by
        rcases hcut'.out with ⟨_, h⟩ | ⟨h, _⟩
        · rw [← d1'.out]; exact h
        · cases h)
      clear hcut'
      cases I with
      | false =>
        have hX := Lib.hid (hbadd.out (fun p hp => by
          rw [hcc.out] at hp
          obtain rfl := Option.some.inj hp
          exact fun h => by rw [hI'.out] at h; cases h.1))
        go_wp2_with fail
        go_at_call 32
        with_reducible refine cN.mono ?_
        rintro e w4 ⟨rfl, rfl⟩
        go_wp2
        go_ret3
        exact ⟨hX.out _, hB3.out⟩
      | true =>
      cases V with
      | false =>
        have hX := Lib.hid (hbadd.out (fun p hp => by
          rw [hcc.out] at hp
          obtain rfl := Option.some.inj hp
          exact fun h => by rw [← dv'.out, hV'.out] at h; cases h.2))
        go_wp2_with fail
        go_at_call 32
        with_reducible refine cN.mono ?_
        rintro e w4 ⟨rfl, rfl⟩
        go_wp2_with fail
        go_at_call 20
        with_reducible refine cV.mono ?_
        rintro e w4 ⟨rfl, rfl⟩
        go_wp2
        go_ret3
        exact ⟨hX.out _, hB3.out⟩
      | true =>
      have hgood : Hid (Good1 R n.data.toList v.data.toList) := Lib.hid ⟨⟨q.data.toList, hcc.out, dv'.out⟩, hI'.out, hV'.out⟩
      cases C with
      | true =>
        have hX := Lib.hid (hno.out (more_bad hmore'.out hr'.out (flds_te hgood.out (by simpa using hC'.out))))
        go_wp2_with fail
        go_at_call 32
        with_reducible refine cN.mono ?_
        rintro e w4 ⟨rfl, rfl⟩
        go_wp2_with fail
        go_at_call 20
        with_reducible refine cV.mono ?_
        rintro e w4 ⟨rfl, rfl⟩
        go_wp2
        go_ret3
        exact ⟨hX.out _, hB3.out⟩
      | false =>
      have hnt : Hid (Ch.low n.data.toList ≠ teS) := Lib.hid (by simpa using hC'.out)
      go_wp2_with fail
      go_at_call 32
      with_reducible refine cN.mono ?_
      rintro e w4 ⟨rfl, rfl⟩
      go_wp2_with fail
      go_at_call 20
      with_reducible refine cV.mono ?_
      rintro e w4 ⟨rfl, rfl⟩
      clear cN cV hbadd
      cases D with
      | false =>
        have hncl : Hid (Ch.low n.data.toList ≠ clS) := Lib.hid (by simpa using hD'.out)
        have hlen : acc.length ≤ 1099511627776 := by omega
        have hBz := hB3.out.size
        go_wp2_with (at_builtin; refine append_field (n.data.toList, v.data.toList) n v (sv_data n) (sv_data v) rfl _ _ rfl w.heap.size _ acc _ rfl rfl rfl hO3.out hlen hBz ?_)
        intro v9 w9 hown9 hg9
        have hB9 := Lib.hid (left_fs hB3.out hO3.out hg9 hBz)
        have hown9' := Lib.hid hown9
        clear hown9 hg9
        go_wp2
        go_roundw
        case rel => exact ⟨k + 1, l, acc ++ [(n.data.toList, v.data.toList)], by go_num, by omega, by rw [hL'.out], hown9'.out, by rw [List.length_append]; simp; omega, hB9.out, hl6'.out, more_fd hmore'.out hr'.out hgood.out hnt.out hncl.out⟩
        case measure => simp [RowKit.intOf]; omega
      | true =>
        have hcl : Hid (Ch.low n.data.toList = clS) := Lib.hid (by simpa using hD'.out)
        have cM := Ch.refNumber_any v 65536 w4 (by omega) (by decide)
        unfold Ch.numE at cM
        rw [show ((65536 : Nat) : Int) = 65536 from rfl] at cM
        have hle := Ch.numS_le v.data.toList 65536
        obtain ⟨⟨z, g⟩, hz⟩ : ∃ z, Ch.numS v.data.toList 65536 = z := ⟨_, rfl⟩
        rw [hz] at cM hle
        simp only at cM hle
        have hz' := Lib.hid hz
        clear hz
        go_wp2_with fail
        go_at_call 33
        with_reducible refine cM.mono ?_
        rintro e w5 ⟨rfl, rfl⟩
        clear cM
        cases g with
        | false =>
          have hX := Lib.hid (hno.out (more_bad hmore'.out hr'.out (flds_cl2 hgood.out hnt.out hcl.out (.inr (by rw [hz'.out])))))
          go_wp2
          go_ret3
          exact ⟨hX.out _, hB3.out⟩
        | true =>
        have hll : (0 ≤ L ∧ l ≠ none) ∨ (¬ 0 ≤ L ∧ l = none) := by
          have := hL'.out
          unfold lenI at this
          cases l with
          | none => right; exact ⟨by have t : (-1 : Int) = L := this; omega, rfl⟩
          | some y => left; exact ⟨by have t : (y : Int) = L := this; omega, by simp⟩
        rcases hll with ⟨hl0, hl1⟩ | ⟨hl0, hl1⟩
        · have hX := Lib.hid (hno.out (more_bad hmore'.out hr'.out (flds_cl2 hgood.out hnt.out hcl.out (.inl hl1))))
          clear hl1
          go_wp2
          go_ret3
          exact ⟨hX.out _, hB3.out⟩
        · have hm9 : Hid (More rows (k + 1) (some z) acc) := Lib.hid (by
            have h1 := hmore'.out
            rw [hl1] at h1
            have h2 := more_len h1 hr'.out hgood.out hnt.out hcl.out (by rw [hz'.out])
            rw [hz'.out] at h2
            exact h2)
          have hcv : IntKind.i64.wrap (z : Int) = (z : Int) := IntWalk.i64_in _ (by omega)
          clear hl1
          go_wp2
          go_roundw
          case rel => exact ⟨k + 1, some z, acc, by go_num, by omega, rfl, hO3.out, by omega, hB3.out, (fun y hy => by injection hy with hy; omega), hm9.out⟩
          case measure => simp [RowKit.intOf]; omega
    · have hall := hyes.out l acc (.slice ao na cap) wr (more_end hmore'.out (by have := hN'.out; omega)) hl6'.out hown'.out
      rw [← lenI_max, hL'.out] at hall
      have hall' := Lib.hid hall
      clear hall
      go_wp2
      go_ret3
      exact ⟨hall'.out, hbr'.out⟩
end Go.Proofs.YtiaollhiggeolaaGreatDoor.Ht
