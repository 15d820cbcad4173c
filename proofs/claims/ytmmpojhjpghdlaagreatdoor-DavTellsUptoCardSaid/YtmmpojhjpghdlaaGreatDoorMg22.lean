import Derived.Test.YtmmpojhjpghdlaaGreatDoorMg21
import Derived.Test.YtmmpojhjpghdlaaGreatDoorMg6
import Derived.Test.YtmmpojhjpghdlaaGreatDoorMg2
import Derived.Lib.Hide

/-
  THE WALK OF A byteStringReplacer's Replace AT THIS DUMP.
-/
set_option linter.unusedVariables false
namespace Go.Proofs.YtmmpojhjpghdlaaGreatDoor.Xm
open Go.Lib Go.RowKit

def u8v (b : UInt8) : Value := .int .u8 (b.toNat : Int)
theorem info8 : (Tryz.prog.info? 5).map (fun i => (i.zero, i.size, i.bytes)) = some (some (.int .u8 0), 1, 1) := by kernel_rfl
/-- make([]byte, n) -/
theorem buf_new (w : World) (N : Nat) (hN : N ≤ 281474976710656) : ∃ w', (Instr.makeSlice 88 (.int .i64 (N : Int)) (.int .i64 (N : Int))).run Tryz.prog w = .ok (.slice (some ⟨w.heap.size, 0, none⟩) N N) w' ∧ w'.heap[w.heap.size]? = some (.cells (List.replicate N (.int .u8 0)).toArray 5 (0, 0)) ∧ Below w.heap.size w w' := by
  obtain ⟨i0, hi, hz0, hz1, hz2⟩ := info_parts info8
  have h := run_make (P := Tryz.prog) w 88 5 i0 (.int .u8 0) Tryz.underlying88 hi hz0 .i64 .i64 (N : Int) (N : Int) (by omega) (Int.le_refl _) (by rw [hz2]; omega) (by omega)
  simp only [Int.toNat_natCast] at h
  refine ⟨_, h, ?_, (Below.refl _ _).alloc (Nat.le_refl _) _⟩
  rw [heap_alloc_new]
  have : madeCells (Value.cells (.int .u8 0)) (N * i0.size) = (List.replicate N (Value.int .u8 0)).toArray := by
    rw [hz1, Nat.mul_one]
    apply Array.ext'
    apply List.ext_getElem?
    intro j
    rw [Array.getElem?_toList, List.toList_toArray, List.getElem?_replicate]
    unfold madeCells
    rw [Array.getElem?_map, Array.getElem?_range]
    by_cases h : j < N
    · rw [if_pos h, if_pos h]
      have : j % (Value.cells (.int .u8 0)).size = 0 := Nat.mod_one j
      simp only [Option.map_some, this]
      rfl
    · rw [if_neg h, if_neg h]; rfl
  rw [this]
/-- is a text told as another one? byte by byte -/
def anyI (t : Row) (i : Nat) : Bool := (t.take i).any fun c => decide (esc c ≠ [c])
theorem anyI_succ {t : Row} {i : Nat} (h : i < t.length) : anyI t (i + 1) = (anyI t i || decide (esc t[i] ≠ [t[i]])) := by
  unfold anyI
  rw [take_cons h, List.any_append]
  simp
theorem anyI_none (t : Row) (h : anyI t t.length = false) : escT t = t := by
  unfold anyI at h
  rw [List.take_length, List.any_eq_false] at h
  refine escT_same t fun c hc => ?_
  have := h c hc
  simpa using this
theorem splice_take (cs X : List Value) (J : Nat) (h : J ≤ cs.length) : (splice cs J X).take (J + X.length) = cs.take J ++ X := by
  unfold splice
  rw [← List.append_assoc, List.take_append_of_le_length (by rw [List.length_append, List.length_take]; omega), List.take_of_length_le (by rw [List.length_append, List.length_take]; omega)]
/-- string(buf) -/
theorem buf_text (w : World) (g : Nat) (l : Row) (cap : Nat) (h : w.heap[g]? = some (.cells (l.map u8v).toArray 5 (0, 0))) : (convert 88 9 (.slice (some ⟨g, 0, none⟩) l.length cap)).run Tryz.prog w = .ok (.string ⟨l.toArray⟩) w :=
  run_convert_bytes_back (P := Tryz.prog) w 88 9 5 ⟨g, 0, none⟩ cap l Tryz.underlying88 Tryz.underlying5 Tryz.underlying9 (fun j hj => by
    have e : (⟨g, 0, none⟩ : Addr).add j = ⟨g, j, none⟩ := Lib.add_plain g 0 j |>.trans (by rw [Nat.zero_add])
    rw [e, Lib.cell_of_heap h, List.getElem?_toArray, List.getElem?_map, List.getElem?_eq_getElem hj]
    rfl)
set_option maxHeartbeats 8000000 in
set_option maxRecDepth 100000 in
theorem bsrRep_any (z : Nat) (s : ByteArray) (w : World) (h : Tab w z) (hs : s.size ≤ 68719476736) : Calls Tryz.prog 249 #[.pointer (some ⟨z, 0, none⟩), .string s] w fun e w' => RepP s e ∧ Below w.heap.size w w' := by
  have hT' := Lib.hid h
  obtain ⟨⟨gq, cq, hq, hS⟩, hv, hz⟩ := h
  have hS' := Lib.hid hS
  have qE : ∀ (w : World) (a : Option Addr) (n c n' c' : Nat), (binOp .neq 88 (.slice a n c) (.slice none n' c')).run Tryz.prog w = .ok (.bool (!a.isNone)) w := fun w a n c n' c' => run_neq_slice_nil_any w _ _ a n c n' c' Tryz.underlying88
  obtain ⟨n, hn⟩ : ∃ n, s.data.toList.length = n := ⟨_, rfl⟩
  have hsn : s.size = n := by rw [Lib.size_eq, hn]
  have hn' := Lib.hid hn
  have hnb : n ≤ 68719476736 := by omega
  clear hS hv hn hs
  by_cases h32 : 32 ≤ n
  · have h32' : (32 : Int) ≤ (n : Int) := by omega
    go_enter Tryz.func249, Tryz.ntmps249
    go_wp2
    go_loopw [5, 6, 32] (fun s5 s6 s32 wr => Below w.heap.size w wr ∧ ∃ k : Nat, k ≤ 4 ∧ s32 = .int .i64 (k : Int) ∧ s5 = .int .i64 ((n + sumK s.data.toList k : Nat) : Int) ∧ s6 = .bool (anyK s.data.toList k)) (fun s5 s6 s32 wr => 4 - (RowKit.intOf s32).toNat)
    case atStart => exact ⟨Below.refl _ _, 0, by decide, rfl, rfl, rfl⟩
    case round =>
      obtain ⟨hbw, k, hk, rfl, rfl, rfl⟩ := hrel
      have hTr := Lib.hid (hT'.out.kept hbw)
      have hbw' := Lib.hid hbw
      clear hbw
      by_cases hlt : k < 4
      · obtain ⟨c, hc⟩ : ∃ c, rpO k = c := ⟨_, rfl⟩
        obtain ⟨O, hO⟩ : ∃ O : ByteArray, (⟨#[c]⟩ : ByteArray) = O := ⟨_, rfl⟩
        have o1 : wr.cell? ⟨gq, k, none⟩ = some (.string O) := by
          have := (hS'.out.kept hbw'.out).2 k _ (rpS_at k hlt)
          rw [hc] at this
          rw [← hO]; exact this
        have hO1 : O.size = 1 := by rw [← hO]; rfl
        have hO2 : ∀ h, O[0]'h = c := by rw [← hO]; intro h; rfl
        have cC := fun W => Tryz.strings_Count_one s c W
        rw [hO] at cC
        obtain ⟨K, hK⟩ : ∃ K, Lib.countByte s.data.toList c = K := ⟨_, rfl⟩
        rw [hK] at cC
        have hKc : s.data.toList.count (rpO k) = K := by rw [hc]; exact hK
        have hKn : K ≤ n := by rw [← hKc, ← hn'.out]; exact List.count_le_length
        obtain ⟨S0, hS0⟩ : ∃ S0, n + sumK s.data.toList k = S0 := ⟨_, rfl⟩
        obtain ⟨A0, hA0⟩ : ∃ A0, anyK s.data.toList k = A0 := ⟨_, rfl⟩
        have hS0b : S0 ≤ 1168231104512 := by
          have := sum_le s.data.toList k
          rw [hn'.out] at this
          have h2 : n * 4 * k ≤ n * 4 * 4 := Nat.mul_le_mul_left _ hk
          omega
        rw [hS0, hA0]
        by_cases hK0 : K = 0
        · have x1 : ((K : Int) != 0) = false := by rw [hK0]; rfl
          have x2 : (K != 0) = false := by rw [hK0]; rfl
          have x3 : ((K : Int) == 0) = true := by rw [hK0]; rfl
          have x4 : (K == 0) = true := by rw [hK0]; rfl
          have hn1 := Lib.hid (show n + sumK s.data.toList (k + 1) = S0 from by
            show n + (sumK s.data.toList k + cntK s.data.toList k) = S0
            unfold cntK
            rw [hKc, hK0, Nat.zero_mul, Nat.add_zero, hS0])
          have hn2 := Lib.hid (show anyK s.data.toList (k + 1) = A0 from by
            show (anyK s.data.toList k || _) = A0
            rw [hKc, hA0, decide_eq_false (by omega), Bool.or_false])
          clear hK hKc hKn hS0 hA0 hK0 hO hc
          go_wp2_with fail
          go_at_call 251
          refine (cC _).mono ?_
          rintro e w2 ⟨rfl, rfl⟩
          go_wp2
          go_roundw
          case rel => exact ⟨by first | exact hbw'.out | exact below_drewN _ hbw'.out, k + 1, by omega, by go_num, by rw [hn1.out], by rw [hn2.out]⟩
          case measure => simp [RowKit.intOf]; omega
        · have x1 : ((K : Int) != 0) = true := by rw [bne, beq_eq_false_iff_ne.2 (by omega)]; rfl
          have x2 : (K != 0) = true := by rw [bne, beq_eq_false_iff_ne.2 hK0]; rfl
          have x3 : ((K : Int) == 0) = false := beq_eq_false_iff_ne.2 (by omega)
          have x4 : (K == 0) = false := beq_eq_false_iff_ne.2 hK0
          obtain ⟨m, hm⟩ : ∃ m, (esc c).length - 1 = m := ⟨_, rfl⟩
          have hm4 : m ≤ 4 := by have := esc_len c; omega
          obtain ⟨P, hP⟩ : ∃ P, K * m = P := ⟨_, rfl⟩
          have hPb : P ≤ 274877906944 := by
            rw [← hP]
            have := Nat.mul_le_mul hKn hm4
            omega
          obtain ⟨M, hM⟩ : ∃ M, m + 1 = M := ⟨_, rfl⟩
          obtain ⟨S1, hS1⟩ : ∃ S1, S0 + P = S1 := ⟨_, rfl⟩
          obtain ⟨g2, cap2, y1⟩ : ∃ g2 cap2, wr.cell? ⟨z, c.toNat, none⟩ = some (.slice (some ⟨g2, 0, none⟩) M cap2) := by
            rcases hTr.out.v c with ⟨e, _⟩ | ⟨_, g, cap, e, _⟩
            · have := rpT_all c
              rw [if_pos e, ← hc, rpT_old k hlt] at this
              cases this
            · have hl : (esc c).length = M := by
                have h3 : (esc c).length ≠ 0 := by
                  unfold esc
                  repeat' split
                  all_goals simp
                omega
              rw [hl] at e
              exact ⟨g, cap, e⟩
          have hn1 := Lib.hid (show n + sumK s.data.toList (k + 1) = S1 from by
            show n + (sumK s.data.toList k + cntK s.data.toList k) = _
            unfold cntK
            rw [hKc, hc, hm, hP]; omega)
          have hn2 := Lib.hid (show anyK s.data.toList (k + 1) = true from by
            show (anyK s.data.toList k || _) = true
            rw [hKc, decide_eq_true hK0, Bool.or_true])
          have e1 : (M : Int) - 1 = (m : Int) := by omega
          have e2 : (K : Int) * (m : Int) = (P : Int) := by rw [← hP]; exact (Int.natCast_mul K m).symm
          have e3 : (S0 : Int) + (P : Int) = (S1 : Int) := by omega
          have r3 : IntKind.i64.wrap (S1 : Int) = (S1 : Int) := IntWalk.i64_in _ (by omega)
          have r1 : IntKind.i64.wrap (m : Int) = (m : Int) := IntWalk.i64_in _ (by omega)
          have r2 : IntKind.i64.wrap (P : Int) = (P : Int) := IntWalk.i64_in _ (by omega)
          have r4 : wrap64 ((K : Int) * (m : Int)) = (P : Int) := (IntWalk.wrap64_in _ (by omega)).trans e2
          have hc1 : (0 : Int) ≤ (c.toNat : Int) := by omega
          have hc2 : (c.toNat : Int) < 256 := by have := c.toNat_lt; omega
          clear hK hKc hKn hS0 hA0 hK0 hO hc hm hP hM hS1
          go_wp2_with fail
          go_at_call 251
          refine (cC _).mono ?_
          rintro e w2 ⟨rfl, rfl⟩
          go_wp2_with fail
          go_quiet (fail)
          go_wp2
          go_roundw
          case rel => exact ⟨by first | exact hbw'.out | exact below_drewN _ hbw'.out, k + 1, by omega, by go_num, by rw [hn1.out], by rw [hn2.out]⟩
          case measure => simp [RowKit.intOf]; omega
      · have hk4 : k = 4 := by omega
        subst hk4
        obtain ⟨N, hN⟩ : ∃ N, (escT s.data.toList).length = N := ⟨_, rfl⟩
        have hNn : n + sumK s.data.toList 4 = N := by rw [← hN]; exact by rw [sum_all, hn'.out]
        rw [hNn]
        obtain ⟨A0, hA0⟩ : ∃ A0, anyK s.data.toList 4 = A0 := ⟨_, rfl⟩
        have hAs : A0 = false → escT s.data.toList = s.data.toList := fun e => by rw [← hA0] at e; exact any_none _ e
        rw [hA0]
        have hNb : N ≤ 343597383680 := by
          rw [← hN]
          have := escT_len s.data.toList
          rw [hn'.out] at this; omega
        cases A0 with
        | false =>
          have he := Lib.hid (hAs rfl)
          clear hNn hA0 hAs hN
          go_wp2
          go_ret
          refine ⟨?_, hbw'.out⟩
          unfold RepP
          rw [he.out, Lib.mk_data]
          rfl
        | true =>
          obtain ⟨w1, hmk, hw1, hb1⟩ := buf_new wr N (by omega)
          have hN' := Lib.hid hN
          have hb1' := Lib.hid (hbw'.out.trans (hb1.mono hbw'.out.size))
          obtain ⟨g, hg⟩ : ∃ g, wr.heap.size = g := ⟨_, rfl⟩
          have hgB : w.heap.size ≤ g := by rw [← hg]; exact hbw'.out.size
          have hw1' := Lib.hid hw1
          clear hNn hA0 hAs hN hb1 hw1
          rw [hg] at hw1'
          go_wp2_with fail
          clear hmk hg
          go_loopw [13, 14] (fun s13 s14 wq => ∃ (i : Nat) (cs : List Value), i ≤ n ∧ s14 = .int .i64 (i : Int) ∧ s13 = .int .i64 (lenI s.data.toList i : Int) ∧ wq.heap[g]? = some (.cells cs.toArray 5 (0, 0)) ∧ cs.length = N ∧ cs.take (lenI s.data.toList i) = (escT (s.data.toList.take i)).map u8v ∧ Below w.heap.size w wq) (fun s13 s14 wq => n - (RowKit.intOf s14).toNat)
          case atStart =>
            exact ⟨0, List.replicate N (.int .u8 0), Nat.zero_le _, rfl, rfl, hw1'.out, by simp, rfl, hb1'.out⟩
          case round =>
            obtain ⟨i, cs, hi, rfl, rfl, hcs, hcl, hct, hbq⟩ := hrel
            have hTq := Lib.hid (hT'.out.kept hbq)
            have hbq' := Lib.hid hbq
            by_cases hlt : i < n
            · have hit : i < s.data.toList.length := by rw [hn'.out]; exact hlt
              have his : i < s.size := by omega
              obtain ⟨c, hc⟩ : ∃ c, s[i]'his = c := ⟨_, rfl⟩
              have hct2 : s.data.toList[i] = c := by rw [← hc]; rfl
              obtain ⟨J, hJ⟩ : ∃ J, lenI s.data.toList i = J := ⟨_, rfl⟩
              have hJ2 : lenI s.data.toList (i + 1) = J + (esc c).length := by rw [lenI_succ hit, hJ, hct2]
              have hJ3 : J + (esc c).length ≤ N := by rw [← hJ2, ← hN'.out]; exact lenI_le _ _
              have hesc : escT (s.data.toList.take (i + 1)) = escT (s.data.toList.take i) ++ esc c := by rw [escT_take _ _ hit, hct2]
              rw [hJ] at hct ⊢
              have hc1 : (0 : Int) ≤ (c.toNat : Int) := by omega
              have hc2 : (c.toNat : Int) < 256 := by have := c.toNat_lt; omega
              have hJ0 : (0 : Int) ≤ (J : Int) := by omega
              rcases hTq.out.v c with ⟨hec, y1⟩ | ⟨hne, g2, cap2, y1, hg2, hcc⟩
              · have hJN : J < N := by rw [hec] at hJ3; exact hJ3
                have hJN' : (J : Int) < (N : Int) := by omega
                obtain ⟨u0, hcell⟩ : ∃ u0, wr.cell? ⟨g, J, none⟩ = some u0 := ⟨cs[J]'(by omega), by
                  rw [Lib.cell_of_heap hcs, List.getElem?_toArray, List.getElem?_eq_getElem (by omega)]⟩
                have hfz : wr.frozen? ⟨g, J, none⟩ = false := Lib.frozen_of_heap hcs _
                have hnew : Hid ((wr.setCell ⟨g, J, none⟩ (.int .u8 (c.toNat : Int))).heap[g]? = some (.cells (cs.set J (.int .u8 (c.toNat : Int))).toArray 5 (0, 0))) := Lib.hid (by
                  have := Joins.block_setCell (i := J) hcs (.int .u8 (c.toNat : Int))
                  rw [List.setIfInBounds_toArray] at this
                  exact this)
                have htk : Hid ((cs.set J (.int .u8 (c.toNat : Int))).take (J + 1) = (escT (s.data.toList.take (i + 1))).map u8v) := Lib.hid (by
                  rw [hesc, hec, List.map_append, ← hct, List.take_add_one, List.take_set_of_le (Nat.le_refl _), List.getElem?_set_self (by omega)]
                  rfl)
                have hJ4 := Lib.hid (show lenI s.data.toList (i + 1) = J + 1 by rw [hJ2, hec]; rfl)
                have hbs := Lib.hid (hbq.setCell (p := ⟨g, J, none⟩) hgB (.int .u8 (c.toNat : Int)))
                have hcl' := Lib.hid hcl
                clear hcs hct hcl hJ hJ2 hJ3 hesc hec hct2 hbq
                go_wp2
                go_roundw
                case rel => exact ⟨i + 1, _, by omega, by go_num, by rw [hJ4.out]; go_num, hnew.out, by rw [List.length_set]; exact hcl'.out, by rw [hJ4.out]; exact htk.out, hbs.out⟩
                case measure => simp [RowKit.intOf]; omega
              · obtain ⟨L, hL⟩ : ∃ L, (esc c).length = L := ⟨_, rfl⟩
                rw [hL] at y1 hJ2 hJ3
                have hL5 : L ≤ 5 := by have := esc_len c; omega
                obtain ⟨J1, hJ1⟩ : ∃ J1, J + L = J1 := ⟨_, rfl⟩
                have hL1 : 1 ≤ L := by
                  rw [← hL]
                  have h3 : (esc c).length ≠ 0 := by
                    unfold esc
                    repeat' split
                    all_goals simp
                  omega
                have hJN : J < N := by omega
                have hJN' : (J : Int) < (N : Int) := by omega
                obtain ⟨D, hD⟩ : ∃ D, N - J = D := ⟨_, rfl⟩
                have hDi : (N : Int) - (J : Int) = (D : Int) := by omega
                have r1 : IntKind.i64.wrap (J : Int) = (J : Int) := IntWalk.i64_in _ (by omega)
                have r2 : (J : Int) + (L : Int) = (J1 : Int) := by omega
                have r3 : IntKind.i64.wrap (J1 : Int) = (J1 : Int) := IntWalk.i64_in _ (by omega)
                have y2 : wr.drew.cell? ⟨z, c.toNat, none⟩ = some (.slice (some ⟨g2, 0, none⟩) L cap2) := y1
                have hcs2 : wr.drew.heap[g]? = some (.cells cs.toArray 5 (0, 0)) := hcs
                have hcs' := Lib.hid hcs
                have hcc' := Lib.hid hcc
                have hbd : Below w.heap.size w wr.drew := hbq.drew
                have hbd' := Lib.hid hbd
                have hL' := Lib.hid hL
                have hcl' := Lib.hid hcl
                have hct' := Lib.hid hct
                have hesc' := Lib.hid hesc
                have hJ2' := Lib.hid hJ2
                have hJ1' := Lib.hid hJ1
                have hD' := Lib.hid hD
                have hsz8 : (Tryz.prog.info? 5).map (·.size) = some 1 := by kernel_rfl
                clear hcs hct hcl hJ hJ2 hesc hct2 hbq hcc hL hJ1 hD hbd
                have hcsd := Lib.hid hcs2
                have hSS : Hid (∀ W, Below w.heap.size w W → Below w.heap.size w W ∧ W.cell? ⟨z, c.toNat, none⟩ = some (.slice (some ⟨g2, 0, none⟩) L cap2)) := Lib.hid fun W hW =>
                  ⟨hW, ((hW.cell (p := ⟨z, c.toNat, none⟩) hz).trans (hbq'.out.cell (p := ⟨z, c.toNat, none⟩) hz).symm).trans y1⟩
                have hJN2 : (J : Int) ≤ (N : Int) := by omega
                have hJN3 : J ≤ N := by omega
                have hNJ : ¬ N = J := by omega
                obtain ⟨X, hX⟩ : ∃ X, (esc c).map u8v = X := ⟨_, rfl⟩
                have hXl : X.length = L := by rw [← hX, List.length_map]; exact hL'.out
                have k1 : Hid (X.length = Nat.min L (N - J)) := Lib.hid (by rw [hXl]; exact (Nat.min_eq_left (by omega)).symm)
                have k2 : Hid (∀ (j : Nat) (v : Value), X[j]? = some v → wr.drew.cell? ((⟨g2, 0, none⟩ : Addr).add j) = some v) := Lib.hid fun j v hj => by
                  rw [← hX, List.getElem?_map] at hj
                  obtain ⟨x, hx, rfl⟩ := Option.map_eq_some_iff.1 hj
                  have e : (⟨g2, 0, none⟩ : Addr).add j = ⟨g2, j, none⟩ := Lib.add_plain g2 0 j |>.trans (by rw [Nat.zero_add])
                  rw [e]
                  exact hcc'.out j x hx
                have k3 : Hid (J + X.length ≤ cs.length) := Lib.hid (by rw [hXl, hcl'.out]; exact hJ3)
                have k4 : Hid (∀ v ∈ X, v.oneCell' = true) := Lib.hid fun v hv => by
                  rw [← hX] at hv
                  obtain ⟨x, _, rfl⟩ := List.mem_map.1 hv
                  rfl
                have hX' := Lib.hid hX
                have hXl' := Lib.hid hXl
                clear hcs2 hX
                go_wp2_with fail
                go_region_held3 (fun W => Below w.heap.size w W ∧ W.cell? ⟨z, c.toNat, none⟩ = some (.slice (some ⟨g2, 0, none⟩) L cap2)) (refine hSS.out _ ?_ <;> first | assumption | exact hbd'.out | exact And.left (by assumption))
                  (first
                    | (refine step_copy_splice (by rfl) (.tmp 105) (.tmp 111) 88 88 (by rfl) 5 Tryz.underlying88 hsz8 (some ⟨g, J, none⟩) (some ⟨g2, 0, none⟩) (N - J) (N - J) L cap2 (by rfl) (by rfl) g J cs 5 hcsd.out X k1.out (fun _ => ⟨rfl, ⟨g2, 0, none⟩, rfl, k2.out⟩) k3.out k4.out w.heap.size w hbd'.out hgB ?_; intro w4 hg4 hb4))
                have hg5 := Lib.hid hg4.out
                have hb5 := Lib.hid hb4
                have htk : Hid ((splice cs J X).take J1 = (escT (s.data.toList.take (i + 1))).map u8v) := Lib.hid (by
                  rw [hesc'.out, List.map_append, ← hct'.out, hX'.out, ← hJ1'.out, ← hXl'.out]
                  exact splice_take cs X J (by rw [hcl'.out]; omega))
                have hlen : Hid ((splice cs J X).length = N) := Lib.hid (by rw [length_splice _ _ _ k3.out]; exact hcl'.out)
                have hJ6 := Lib.hid (show lenI s.data.toList (i + 1) = J1 by rw [hJ2'.out, hJ1'.out])
                clear hg4 hb4 k1 k2 k3 k4
                go_wp2
                go_roundw
                case rel => exact ⟨i + 1, _, by omega, by go_num, by rw [hJ6.out], hg5.out, hlen.out, by rw [hJ6.out]; exact htk.out, hb5.out⟩
                case measure => simp [RowKit.intOf]; omega
            · have hin : i = n := by omega
              have hln : lenI s.data.toList i = N := by rw [hin, ← hn'.out, lenI_all, hN'.out]
              have hfin : cs = (escT s.data.toList).map u8v := by
                rw [hln, List.take_of_length_le (by omega), hin, ← hn'.out, List.take_length] at hct
                exact hct
              have hcv := buf_text wr g (escT s.data.toList) N (by rw [← hfin]; exact hcs)
              rw [hN'.out] at hcv
              rw [hln]
              clear hfin hct hcs hcl hln
              go_wp2
              go_ret
              exact ⟨rfl, hbq'.out⟩
  · have h32' : ¬ (32 : Int) ≤ (n : Int) := by omega
    go_enter Tryz.func249, Tryz.ntmps249
    go_wp2
    go_loopw [5, 6, 10] (fun s5 s6 s10 wr => Below w.heap.size w wr ∧ ∃ k : Nat, k ≤ n ∧ s10 = .int .i64 (k : Int) ∧ s5 = .int .i64 ((n - k + lenI s.data.toList k : Nat) : Int) ∧ s6 = .bool (anyI s.data.toList k)) (fun s5 s6 s10 wr => n - (RowKit.intOf s10).toNat)
    case atStart => exact ⟨Below.refl _ _, 0, by omega, rfl, rfl, rfl⟩
    case round =>
      obtain ⟨hbw, k, hk, rfl, rfl, rfl⟩ := hrel
      have hTr := Lib.hid (hT'.out.kept hbw)
      have hbw' := Lib.hid hbw
      clear hbw
      by_cases hlt : k < n
      · have hit : k < s.data.toList.length := by rw [hn'.out]; exact hlt
        have his : k < s.size := by omega
        obtain ⟨c, hc⟩ : ∃ c, s[k]'his = c := ⟨_, rfl⟩
        have hct2 : s.data.toList[k] = c := by rw [← hc]; rfl
        obtain ⟨S0, hS0⟩ : ∃ S0, n - k + lenI s.data.toList k = S0 := ⟨_, rfl⟩
        obtain ⟨A0, hA0⟩ : ∃ A0, anyI s.data.toList k = A0 := ⟨_, rfl⟩
        have hS0b : S0 ≤ 412316860416 := by
          have h1 := lenI_le s.data.toList k
          have h2 := escT_len s.data.toList
          rw [hn'.out] at h2
          omega
        have hl2 : lenI s.data.toList (k + 1) = lenI s.data.toList k + (esc c).length := by rw [lenI_succ hit, hct2]
        have ha2 := anyI_succ hit
        rw [hct2, hA0] at ha2
        rw [hS0, hA0]
        have hc1 : (0 : Int) ≤ (c.toNat : Int) := by omega
        have hc2 : (c.toNat : Int) < 256 := by have := c.toNat_lt; omega
        rcases hTr.out.v c with ⟨hec, y1⟩ | ⟨hne, g2, cap2, y1, hg2, hcc⟩
        · have hn1 := Lib.hid (show n - (k + 1) + lenI s.data.toList (k + 1) = S0 by rw [hl2, hec, ← hS0, List.length_singleton]; omega)
          have hn2 := Lib.hid (show anyI s.data.toList (k + 1) = A0 by rw [ha2, hec, decide_eq_false (fun h => h rfl), Bool.or_false])
          clear hct2 hS0 hA0 hl2 ha2 hec
          go_wp2
          go_roundw
          case rel => exact ⟨hbw'.out, k + 1, by omega, by go_num, by rw [hn1.out], by rw [hn2.out]⟩
          case measure => simp [RowKit.intOf]; omega
        · have hL1 : (esc c).length ≠ 0 := by
            unfold esc
            repeat' split
            all_goals simp
          obtain ⟨M, hM⟩ : ∃ M, (esc c).length = M := ⟨_, rfl⟩
          obtain ⟨m, hm⟩ : ∃ m, M - 1 = m := ⟨_, rfl⟩
          have hM5 : M ≤ 5 := by rw [← hM]; exact esc_len c
          rw [hM] at y1 hl2 hL1
          obtain ⟨S1, hS1⟩ : ∃ S1, S0 + m = S1 := ⟨_, rfl⟩
          have e1 : (M : Int) - 1 = (m : Int) := by omega
          have e3 : (S0 : Int) + (m : Int) = (S1 : Int) := by omega
          have r1 : IntKind.i64.wrap (m : Int) = (m : Int) := IntWalk.i64_in _ (by omega)
          have r3 : IntKind.i64.wrap (S1 : Int) = (S1 : Int) := IntWalk.i64_in _ (by omega)
          have hn1 := Lib.hid (show n - (k + 1) + lenI s.data.toList (k + 1) = S1 by rw [hl2]; omega)
          have hn2 := Lib.hid (show anyI s.data.toList (k + 1) = true by
            rw [ha2, decide_eq_true hne, Bool.or_true])
          clear hct2 hS0 hA0 hl2 ha2 hM hm hcc hS1
          go_wp2
          go_roundw
          case rel => exact ⟨hbw'.out, k + 1, by omega, by go_num, by rw [hn1.out], by rw [hn2.out]⟩
          case measure => simp [RowKit.intOf]; omega
      · have hkn : k = n := by omega
        rw [hkn, Nat.sub_self, Nat.zero_add]
        obtain ⟨N, hN⟩ : ∃ N, (escT s.data.toList).length = N := ⟨_, rfl⟩
        have hNn : lenI s.data.toList n = N := by rw [← hN]; exact by rw [← hn'.out, lenI_all]
        rw [hNn]
        obtain ⟨A0, hA0⟩ : ∃ A0, anyI s.data.toList n = A0 := ⟨_, rfl⟩
        have hAs : A0 = false → escT s.data.toList = s.data.toList := fun e => by rw [← hA0] at e; rw [← hn'.out] at e; exact anyI_none _ e
        rw [hA0]
        have hNb : N ≤ 343597383680 := by
          rw [← hN]
          have := escT_len s.data.toList
          rw [hn'.out] at this; omega
        cases A0 with
        | false =>
          have he := Lib.hid (hAs rfl)
          clear hNn hA0 hAs hN
          go_wp2
          go_ret
          refine ⟨?_, hbw'.out⟩
          unfold RepP
          rw [he.out, Lib.mk_data]
          rfl
        | true =>
          obtain ⟨w1, hmk, hw1, hb1⟩ := buf_new wr N (by omega)
          have hN' := Lib.hid hN
          have hb1' := Lib.hid (hbw'.out.trans (hb1.mono hbw'.out.size))
          obtain ⟨g, hg⟩ : ∃ g, wr.heap.size = g := ⟨_, rfl⟩
          have hgB : w.heap.size ≤ g := by rw [← hg]; exact hbw'.out.size
          have hw1' := Lib.hid hw1
          clear hNn hA0 hAs hN hb1 hw1
          rw [hg] at hw1'
          go_wp2_with fail
          clear hmk hg
          go_loopw [13, 14] (fun s13 s14 wq => ∃ (i : Nat) (cs : List Value), i ≤ n ∧ s14 = .int .i64 (i : Int) ∧ s13 = .int .i64 (lenI s.data.toList i : Int) ∧ wq.heap[g]? = some (.cells cs.toArray 5 (0, 0)) ∧ cs.length = N ∧ cs.take (lenI s.data.toList i) = (escT (s.data.toList.take i)).map u8v ∧ Below w.heap.size w wq) (fun s13 s14 wq => n - (RowKit.intOf s14).toNat)
          case atStart =>
            exact ⟨0, List.replicate N (.int .u8 0), Nat.zero_le _, rfl, rfl, hw1'.out, by simp, rfl, hb1'.out⟩
          case round =>
            obtain ⟨i, cs, hi, rfl, rfl, hcs, hcl, hct, hbq⟩ := hrel
            have hTq := Lib.hid (hT'.out.kept hbq)
            have hbq' := Lib.hid hbq
            by_cases hlt : i < n
            · have hit : i < s.data.toList.length := by rw [hn'.out]; exact hlt
              have his : i < s.size := by omega
              obtain ⟨c, hc⟩ : ∃ c, s[i]'his = c := ⟨_, rfl⟩
              have hct2 : s.data.toList[i] = c := by rw [← hc]; rfl
              obtain ⟨J, hJ⟩ : ∃ J, lenI s.data.toList i = J := ⟨_, rfl⟩
              have hJ2 : lenI s.data.toList (i + 1) = J + (esc c).length := by rw [lenI_succ hit, hJ, hct2]
              have hJ3 : J + (esc c).length ≤ N := by rw [← hJ2, ← hN'.out]; exact lenI_le _ _
              have hesc : escT (s.data.toList.take (i + 1)) = escT (s.data.toList.take i) ++ esc c := by rw [escT_take _ _ hit, hct2]
              rw [hJ] at hct ⊢
              have hc1 : (0 : Int) ≤ (c.toNat : Int) := by omega
              have hc2 : (c.toNat : Int) < 256 := by have := c.toNat_lt; omega
              have hJ0 : (0 : Int) ≤ (J : Int) := by omega
              rcases hTq.out.v c with ⟨hec, y1⟩ | ⟨hne, g2, cap2, y1, hg2, hcc⟩
              · have hJN : J < N := by rw [hec] at hJ3; exact hJ3
                have hJN' : (J : Int) < (N : Int) := by omega
                obtain ⟨u0, hcell⟩ : ∃ u0, wr.cell? ⟨g, J, none⟩ = some u0 := ⟨cs[J]'(by omega), by
                  rw [Lib.cell_of_heap hcs, List.getElem?_toArray, List.getElem?_eq_getElem (by omega)]⟩
                have hfz : wr.frozen? ⟨g, J, none⟩ = false := Lib.frozen_of_heap hcs _
                have hnew : Hid ((wr.setCell ⟨g, J, none⟩ (.int .u8 (c.toNat : Int))).heap[g]? = some (.cells (cs.set J (.int .u8 (c.toNat : Int))).toArray 5 (0, 0))) := Lib.hid (by
                  have := Joins.block_setCell (i := J) hcs (.int .u8 (c.toNat : Int))
                  rw [List.setIfInBounds_toArray] at this
                  exact this)
                have htk : Hid ((cs.set J (.int .u8 (c.toNat : Int))).take (J + 1) = (escT (s.data.toList.take (i + 1))).map u8v) := Lib.hid (by
                  rw [hesc, hec, List.map_append, ← hct, List.take_add_one, List.take_set_of_le (Nat.le_refl _), List.getElem?_set_self (by omega)]
                  rfl)
                have hJ4 := Lib.hid (show lenI s.data.toList (i + 1) = J + 1 by rw [hJ2, hec]; rfl)
                have hbs := Lib.hid (hbq.setCell (p := ⟨g, J, none⟩) hgB (.int .u8 (c.toNat : Int)))
                have hcl' := Lib.hid hcl
                clear hcs hct hcl hJ hJ2 hJ3 hesc hec hct2 hbq
                go_wp2
                go_roundw
                case rel => exact ⟨i + 1, _, by omega, by go_num, by rw [hJ4.out]; go_num, hnew.out, by rw [List.length_set]; exact hcl'.out, by rw [hJ4.out]; exact htk.out, hbs.out⟩
                case measure => simp [RowKit.intOf]; omega
              · obtain ⟨L, hL⟩ : ∃ L, (esc c).length = L := ⟨_, rfl⟩
                rw [hL] at y1 hJ2 hJ3
                have hL5 : L ≤ 5 := by have := esc_len c; omega
                obtain ⟨J1, hJ1⟩ : ∃ J1, J + L = J1 := ⟨_, rfl⟩
                have hL1 : 1 ≤ L := by
                  rw [← hL]
                  have h3 : (esc c).length ≠ 0 := by
                    unfold esc
                    repeat' split
                    all_goals simp
                  omega
                have hJN : J < N := by omega
                have hJN' : (J : Int) < (N : Int) := by omega
                obtain ⟨D, hD⟩ : ∃ D, N - J = D := ⟨_, rfl⟩
                have hDi : (N : Int) - (J : Int) = (D : Int) := by omega
                have r1 : IntKind.i64.wrap (J : Int) = (J : Int) := IntWalk.i64_in _ (by omega)
                have r2 : (J : Int) + (L : Int) = (J1 : Int) := by omega
                have r3 : IntKind.i64.wrap (J1 : Int) = (J1 : Int) := IntWalk.i64_in _ (by omega)
                have y2 : wr.drew.cell? ⟨z, c.toNat, none⟩ = some (.slice (some ⟨g2, 0, none⟩) L cap2) := y1
                have hcs2 : wr.drew.heap[g]? = some (.cells cs.toArray 5 (0, 0)) := hcs
                have hcs' := Lib.hid hcs
                have hcc' := Lib.hid hcc
                have hbd : Below w.heap.size w wr.drew := hbq.drew
                have hbd' := Lib.hid hbd
                have hL' := Lib.hid hL
                have hcl' := Lib.hid hcl
                have hct' := Lib.hid hct
                have hesc' := Lib.hid hesc
                have hJ2' := Lib.hid hJ2
                have hJ1' := Lib.hid hJ1
                have hD' := Lib.hid hD
                have hsz8 : (Tryz.prog.info? 5).map (·.size) = some 1 := by kernel_rfl
                clear hcs hct hcl hJ hJ2 hesc hct2 hbq hcc hL hJ1 hD hbd
                have hcsd := Lib.hid hcs2
                have hSS : Hid (∀ W, Below w.heap.size w W → Below w.heap.size w W ∧ W.cell? ⟨z, c.toNat, none⟩ = some (.slice (some ⟨g2, 0, none⟩) L cap2)) := Lib.hid fun W hW =>
                  ⟨hW, ((hW.cell (p := ⟨z, c.toNat, none⟩) hz).trans (hbq'.out.cell (p := ⟨z, c.toNat, none⟩) hz).symm).trans y1⟩
                have hJN2 : (J : Int) ≤ (N : Int) := by omega
                have hJN3 : J ≤ N := by omega
                have hNJ : ¬ N = J := by omega
                obtain ⟨X, hX⟩ : ∃ X, (esc c).map u8v = X := ⟨_, rfl⟩
                have hXl : X.length = L := by rw [← hX, List.length_map]; exact hL'.out
                have k1 : Hid (X.length = Nat.min L (N - J)) := Lib.hid (by rw [hXl]; exact (Nat.min_eq_left (by omega)).symm)
                have k2 : Hid (∀ (j : Nat) (v : Value), X[j]? = some v → wr.drew.cell? ((⟨g2, 0, none⟩ : Addr).add j) = some v) := Lib.hid fun j v hj => by
                  rw [← hX, List.getElem?_map] at hj
                  obtain ⟨x, hx, rfl⟩ := Option.map_eq_some_iff.1 hj
                  have e : (⟨g2, 0, none⟩ : Addr).add j = ⟨g2, j, none⟩ := Lib.add_plain g2 0 j |>.trans (by rw [Nat.zero_add])
                  rw [e]
                  exact hcc'.out j x hx
                have k3 : Hid (J + X.length ≤ cs.length) := Lib.hid (by rw [hXl, hcl'.out]; exact hJ3)
                have k4 : Hid (∀ v ∈ X, v.oneCell' = true) := Lib.hid fun v hv => by
                  rw [← hX] at hv
                  obtain ⟨x, _, rfl⟩ := List.mem_map.1 hv
                  rfl
                have hX' := Lib.hid hX
                have hXl' := Lib.hid hXl
                clear hcs2 hX
                go_wp2_with fail
                go_region_held3 (fun W => Below w.heap.size w W ∧ W.cell? ⟨z, c.toNat, none⟩ = some (.slice (some ⟨g2, 0, none⟩) L cap2)) (refine hSS.out _ ?_ <;> first | assumption | exact hbd'.out | exact And.left (by assumption))
                  (first
                    | (refine step_copy_splice (by rfl) (.tmp 105) (.tmp 111) 88 88 (by rfl) 5 Tryz.underlying88 hsz8 (some ⟨g, J, none⟩) (some ⟨g2, 0, none⟩) (N - J) (N - J) L cap2 (by rfl) (by rfl) g J cs 5 hcsd.out X k1.out (fun _ => ⟨rfl, ⟨g2, 0, none⟩, rfl, k2.out⟩) k3.out k4.out w.heap.size w hbd'.out hgB ?_; intro w4 hg4 hb4))
                have hg5 := Lib.hid hg4.out
                have hb5 := Lib.hid hb4
                have htk : Hid ((splice cs J X).take J1 = (escT (s.data.toList.take (i + 1))).map u8v) := Lib.hid (by
                  rw [hesc'.out, List.map_append, ← hct'.out, hX'.out, ← hJ1'.out, ← hXl'.out]
                  exact splice_take cs X J (by rw [hcl'.out]; omega))
                have hlen : Hid ((splice cs J X).length = N) := Lib.hid (by rw [length_splice _ _ _ k3.out]; exact hcl'.out)
                have hJ6 := Lib.hid (show lenI s.data.toList (i + 1) = J1 by rw [hJ2'.out, hJ1'.out])
                clear hg4 hb4 k1 k2 k3 k4
                go_wp2
                go_roundw
                case rel => exact ⟨i + 1, _, by omega, by go_num, by rw [hJ6.out], hg5.out, hlen.out, by rw [hJ6.out]; exact htk.out, hb5.out⟩
                case measure => simp [RowKit.intOf]; omega
            · have hin : i = n := by omega
              have hln : lenI s.data.toList i = N := by rw [hin, ← hn'.out, lenI_all, hN'.out]
              have hfin : cs = (escT s.data.toList).map u8v := by
                rw [hln, List.take_of_length_le (by omega), hin, ← hn'.out, List.take_length] at hct
                exact hct
              have hcv := buf_text wr g (escT s.data.toList) N (by rw [← hfin]; exact hcs)
              rw [hN'.out] at hcv
              rw [hln]
              clear hfin hct hcs hcl hln
              go_wp2
              go_ret
              exact ⟨rfl, hbq'.out⟩
end Go.Proofs.YtmmpojhjpghdlaaGreatDoor.Xm

/-
  WALKS OF strings.(*Replacer).Replace AND THE PROGRAM's escape.
-/
set_option linter.unusedVariables false
namespace Go.Proofs.YtmmpojhjpghdlaaGreatDoor.Xm
open Go.Lib Go.RowKit

theorem BR.keep {B z k : Nat} {w w' : World} (h : BR B z k w) (hb : ∀ (i : Nat) (cs : Array Value) (t : TypeId) (fr : Nat × Nat), t ≠ 201 → w.heap[i]? = some (.cells cs t fr) → w'.heap[i]? = some (.cells cs t fr)) : BR B z k w' := by
  obtain ⟨cs, q, h1, h2, h3, h4, h5⟩ := h
  refine ⟨cs, q, hb _ _ _ _ (by decide) h1, h2, h3, ownsRow_keep h4 fun i bs fr hi => hb _ _ _ _ (by decide) hi, fun c => ?_⟩
  obtain ⟨v, h6, h7⟩ := h5 c
  exact ⟨v, h6, h7.kept fun g bs fr hg => hb _ _ _ _ (by decide) hg⟩
theorem BR.less {B B' z k : Nat} {w : World} (h : BR B z k w) (hb : B' ≤ B) : BR B' z k w := by
  obtain ⟨cs, q, h1, h2, h3, h4, h5⟩ := h
  exact ⟨cs, q, h1, h2, h3, ownsRow_less h4 hb, h5⟩
theorem keep_setCell {w : World} {b o : Nat} {cs0 : Array Value} {t0 : TypeId} {fr0 : Nat × Nat} (hb : w.heap[b]? = some (.cells cs0 t0 fr0)) (u : Value) (i : Nat) (cs : Array Value) (t : TypeId) (fr : Nat × Nat) (ht : t ≠ t0) (hi : w.heap[i]? = some (.cells cs t fr)) : (w.setCell ⟨b, o, none⟩ u).heap[i]? = some (.cells cs t fr) := by
  rw [Below.heap_setCell w ⟨b, o, none⟩ u i (fun e => by
    have e : i = b := e
    subst e
    rw [hb] at hi
    injection hi with hi
    injection hi with _ h2
    exact ht h2.symm)]
  exact hi
/-- a Replacer that is built -/
def Built (B b : Nat) (w0 w1 : World) : Prop := ∃ z, w1.heap[b]? = some (.cells #[.int .u32 0, .int .i32 1, .int .u32 0, .iface 231 (.pointer (some ⟨z, 0, none⟩)), .slice none 0 0] 201 (0, 0)) ∧ BR B z 4 w1 ∧ Below B w0 w1
set_option maxHeartbeats 2000000 in
set_option maxRecDepth 100000 in
theorem buildOnce_any (B b g c : Nat) (w0 w : World) (hB : B ≤ b) (hb : w.heap[b]? = some (.cells #[.int .u32 0, .int .i32 1, .int .u32 0, .nilIface, .slice (some ⟨g, 0, none⟩) 8 c] 201 (0, 0))) (hS : StrsIn w g e8) (hbw : Below B w0 w) (hBw : B ≤ w.heap.size) :
    Calls Tryz.prog 144 #[.pointer (some ⟨b, 0, none⟩)] w fun e w' => e = .returned (.tuple #[]) ∧ Made b (Built B b w0) w' := by
  have c4 : w.cell? ⟨b, 4, none⟩ = some (.slice (some ⟨g, 0, none⟩) 8 c) := by rw [Lib.cell_of_heap hb]; rfl
  have cB := build_any b g c w c4 hS
  have hb' := Lib.hid hb
  have hbw' := Lib.hid hbw
  clear c4 hS hb hbw
  go_enter Tryz.func144, Tryz.ntmps144
  go_wp2_with fail
  go_at_call 162
  refine cB.mono ?_
  rintro e w1 ⟨z, rfl, hz, hbr, hb1⟩
  clear cB
  have h1 : w1.heap[b]? = some (.cells #[.int .u32 0, .int .i32 1, .int .u32 0, .nilIface, .slice (some ⟨g, 0, none⟩) 8 c] 201 (0, 0)) := (hb1.block b (Array.getElem?_eq_some_iff.1 hb'.out).1).trans hb'.out
  have h2 := Joins.block_setCell (i := 3) h1 (.iface 231 (.pointer (some ⟨z, 0, none⟩)))
  have h3 := Joins.block_setCell (i := 4) h2 (.slice none 0 0)
  have y3 : w1.cell? ⟨b, 3, none⟩ = some .nilIface := by rw [Lib.cell_of_heap h1]; rfl
  have f3 : w1.frozen? ⟨b, 3, none⟩ = false := Lib.frozen_of_heap h1 _
  have y4 : w1.cell? ⟨b, 4, none⟩ = some (.slice (some ⟨g, 0, none⟩) 8 c) := by rw [Lib.cell_of_heap h1]; rfl
  have f4 : w1.frozen? ⟨b, 4, none⟩ = false := Lib.frozen_of_heap h1 _
  have hbr2 := (hbr.less hBw).keep (fun i cs t fr ht hi => keep_setCell (o := 4) h2 (.slice none 0 0) i cs t fr ht (keep_setCell (o := 3) h1 (.iface 231 (.pointer (some ⟨z, 0, none⟩))) i cs t fr ht hi))
  have hbw2 := ((hbw'.out.trans (hb1.mono hBw)).setCell (p := ⟨b, 3, none⟩) hB (.iface 231 (.pointer (some ⟨z, 0, none⟩)))).setCell (p := ⟨b, 4, none⟩) hB (.slice none 0 0)
  have hfin : Hid (Made b (Built B b w0) ((w1.setCell ⟨b, 3, none⟩ (.iface 231 (.pointer (some ⟨z, 0, none⟩)))).setCell ⟨b, 4, none⟩ (.slice none 0 0))) := Lib.hid
    ⟨⟨z, h3, hbr2, hbw2⟩, by rw [Lib.cell_of_heap h3]; rfl, by rw [Lib.cell_of_heap h3]; rfl, Lib.frozen_of_heap h3 _, Lib.frozen_of_heap h3 _⟩
  clear h1 h2 h3 hbr2 hbw2 hbr hb1
  go_wp2
  go_end0
  exact ⟨rfl, hfin.out⟩
set_option maxHeartbeats 2000000 in
set_option maxRecDepth 100000 in
theorem replace_any (B b g c : Nat) (s : ByteArray) (w0 w : World) (hB : B ≤ b) (hb : w.heap[b]? = some (.cells #[.int .u32 0, .int .i32 0, .int .u32 0, .nilIface, .slice (some ⟨g, 0, none⟩) 8 c] 201 (0, 0))) (hS : StrsIn w g e8) (hbw : Below B w0 w) (hB0 : B ≤ w0.heap.size) (hBw : B ≤ w.heap.size) (hs : s.size ≤ 68719476736) :
    Calls Tryz.prog 128 #[.pointer (some ⟨b, 0, none⟩), .string s] w fun e w' => RepP s e ∧ Below B w0 w' := by
  have hmf : ∀ (fn : Fn) (first cap : Array Value) (w : World), (Instr.makeFunc fn first cap).run Tryz.prog w = .ok (.func fn first cap) w := fun _ _ _ _ => rfl
  have k1 := Joins.block_setCell (i := 1) hb (.int .i32 1)
  have cO := buildOnce_any B b g c w0 (w.setCell ⟨b, 1, none⟩ (.int .i32 1)) hB k1 (⟨by simpa using hS.1, fun j l hj => by
    rw [World.cell?_setCell_other _ _ _ _ (fun e => by
      have e1 : b = g := congrArg Addr.block e
      have h1 := hS.2 j l hj
      rw [← e1, Lib.cell_of_heap hb] at h1
      have h2 := hS.2 1 _ rfl
      rw [← e1, Lib.cell_of_heap hb] at h2
      cases h2)]
    exact hS.2 j l hj⟩) (hbw.setCell (p := ⟨b, 1, none⟩) hB _) (by simpa using hBw)
  have cD := do_first b (Built B b w0) w (by rw [Lib.cell_of_heap hb]; rfl) (by rw [Lib.cell_of_heap hb]; rfl) (Lib.frozen_of_heap hb _) (Lib.frozen_of_heap hb _) cO
  clear cO k1 hS hb hbw
  go_enter Tryz.func128, Tryz.ntmps128
  go_wp2_with fail
  go_at_call 143
  refine cD.mono ?_
  rintro e w2 ⟨rfl, w1, ⟨z, h1, hbr, hb1⟩, rfl⟩
  clear cD
  have h1d : w1.drew.heap[b]? = _ := h1
  have h2 := Joins.block_setCell (i := 0) h1d (.int .u32 1)
  have h3 := Joins.block_setCell (i := 1) h2 (.int .i32 0)
  have hbr2 : BR B z 4 ((w1.drew.setCell ⟨b, 0, none⟩ (.int .u32 1)).setCell ⟨b, 1, none⟩ (.int .i32 0)) := hbr.keep (fun i cs t fr ht hi => keep_setCell (o := 1) h2 (.int .i32 0) i cs t fr ht (keep_setCell (o := 0) h1d (.int .u32 1) i cs t fr ht hi))
  have hbw2 := (hb1.drew.setCell (p := ⟨b, 0, none⟩) hB (.int .u32 1)).setCell (p := ⟨b, 1, none⟩) hB (.int .i32 0)
  obtain ⟨w2, hw2⟩ : ∃ w2, (w1.drew.setCell ⟨b, 0, none⟩ (.int .u32 1)).setCell ⟨b, 1, none⟩ (.int .i32 0) = w2 := ⟨_, rfl⟩
  rw [hw2] at h3 hbr2 hbw2 ⊢
  have y3 : w2.cell? ⟨b, 3, none⟩ = some (.iface 231 (.pointer (some ⟨z, 0, none⟩))) := by rw [Lib.cell_of_heap h3]; rfl
  have cR := bsrRep_any z s w2 hbr2.tab hs
  have hm : ∀ w, (method 409 231 (.pointer (some ⟨z, 0, none⟩)) "Replace").run Tryz.prog w = .ok (249, .pointer (some ⟨z, 0, none⟩)) w := fun _ => by kernel_rfl
  have hbw2' := Lib.hid hbw2
  clear h1 h1d h2 h3 hbr hbr2 hb1 hbw2 hw2
  go_wp2_with fail
  go_at_call 249
  refine cR.mono ?_
  rintro e w3 ⟨he, hb3⟩
  have hb3' := Lib.hid (hbw2'.out.trans (hb3.mono (Nat.le_trans hB0 hbw2'.out.size)))
  unfold RepP at he
  subst he
  clear cR hb3 hbw2' hm
  go_wp2
  go_ret
  exact ⟨rfl, hb3'.out⟩
set_option maxHeartbeats 2000000 in
set_option maxRecDepth 100000 in
/-- the program's escape -/
theorem escape_any (t : ByteArray) (w : World) (ht : t.size ≤ 68719476736) : Calls Tryz.prog 110 #[.string t] w fun e w' => e = .returned (.string ⟨(escT t.data.toList).toArray⟩) ∧ Below w.heap.size w w' := by
  go_enter Tryz.func110, Tryz.ntmps110
  go_wp2_with fail
  go_at_call 127
  obtain ⟨w1, hw1⟩ : ∃ w1, w.alloc (.cells #[.string ⟨#[38]⟩, .string ⟨#[38, 97, 109, 112, 59]⟩, .string ⟨#[60]⟩, .string ⟨#[38, 108, 116, 59]⟩, .string ⟨#[62]⟩, .string ⟨#[38, 103, 116, 59]⟩, .string ⟨#[13]⟩, .string ⟨#[38, 35, 49, 51, 59]⟩] 9) = w1 := ⟨_, rfl⟩
  have h1 : w1.heap[w.heap.size]? = some (.cells #[.string ⟨#[38]⟩, .string ⟨#[38, 97, 109, 112, 59]⟩, .string ⟨#[60]⟩, .string ⟨#[38, 108, 116, 59]⟩, .string ⟨#[62]⟩, .string ⟨#[38, 103, 116, 59]⟩, .string ⟨#[13]⟩, .string ⟨#[38, 35, 49, 51, 59]⟩] 9 (0, 0)) := by rw [← hw1]; exact heap_alloc_new w _
  have hb1 : Below w.heap.size w w1 := by rw [← hw1]; exact (Below.refl _ _).alloc (Nat.le_refl _) _
  have hS : StrsIn w1 w.heap.size e8 := ⟨(Array.getElem?_eq_some_iff.1 h1).1, fun j l hj => by
    rw [Lib.cell_of_heap h1]
    have hlt := (List.getElem?_eq_some_iff.1 hj).1
    match j, hlt, hj with
    | 0, _, hj => injection hj with hj; rw [← hj]; rfl
    | 1, _, hj => injection hj with hj; rw [← hj]; rfl
    | 2, _, hj => injection hj with hj; rw [← hj]; rfl
    | 3, _, hj => injection hj with hj; rw [← hj]; rfl
    | 4, _, hj => injection hj with hj; rw [← hj]; rfl
    | 5, _, hj => injection hj with hj; rw [← hj]; rfl
    | 6, _, hj => injection hj with hj; rw [← hj]; rfl
    | 7, _, hj => injection hj with hj; rw [← hj]; rfl⟩
  rw [hw1]
  refine (newR_any w1 w.heap.size hS).mono ?_
  rintro e w2 ⟨b, g, c, rfl, hB, hb, hS2, hb2⟩
  have hb12 := hb1.trans (hb2.mono hb1.size)
  have cR := replace_any w.heap.size b g c t w w2 (Nat.le_trans hb1.size hB) hb hS2 hb12 (Nat.le_refl _) hb12.size ht
  clear h1 hb1 hS hw1 hb hS2 hb2 hb12 hB
  go_wp2_with fail
  go_at_call 128
  refine cR.mono ?_
  rintro e w3 ⟨he, hb3⟩
  unfold RepP at he
  subst he
  have hb3' := Lib.hid hb3
  clear cR hb3
  go_wp2
  go_ret
  exact ⟨rfl, hb3'.out⟩
end Go.Proofs.YtmmpojhjpghdlaaGreatDoor.Xm

/-
  WALKS OF THE PROGRAM's Print OF LAYER xml: fullName, written.
-/
set_option linter.unusedVariables false
namespace Go.Proofs.YtmmpojhjpghdlaaGreatDoor.Xm
open Go.Lib Go.RowKit

set_option maxHeartbeats 2000000 in
set_option maxRecDepth 100000 in
theorem outName_any (k sp : Int) (n t y : ByteArray) (w : World) (hy : (sp = 0 ∧ y = n) ∨ (sp = 1 ∧ (⟨#[68, 58]⟩ : ByteArray) ++ n = y) ∨ (sp = 2 ∧ (⟨#[67, 58]⟩ : ByteArray) ++ n = y)) (hn : n.size ≤ 64) :
    Calls Tryz.prog 111 #[.agg #[.int .i64 k, .int .i64 sp, .string n, .string t]] w fun e w' => e = .returned (.string y) ∧ Below w.heap.size w w' := by
  rcases hy with ⟨rfl, rfl⟩ | ⟨rfl, hy⟩ | ⟨rfl, hy⟩
  all_goals
    go_enter Tryz.func111, Tryz.ntmps111
    go_wp2
    go_ret
    exact ⟨rfl, (Below.refl _ _).alloc (Nat.le_refl _) _⟩
/-- what is written for the piece k -/
def chunkAt (ps : List Pc) (k : Nat) (p : Pc) : Row := chunk (decide (k = 0)) (was1 ps k) p (ps.drop (k + 1))
set_option maxHeartbeats 4000000 in
set_option maxRecDepth 100000 in
theorem written_any (b off n c : Nat) (ps : List Pc) (k : Nat) (p : Pc) (w : World) (hn : ps.length = n) (hP : ∀ (j : Nat) (q : Pc), ps[j]? = some q → PcCells w b (off + j * 4) q) (hb : b < w.heap.size) (hk : ps[k]? = some p) (hr : right ps = true) (hc : n ≤ c) (hc2 : c ≤ 9223372036854775807) (ht : p.text.length ≤ 68719476736) :
    Calls Tryz.prog 85 #[.slice (some ⟨b, off, none⟩) n c, .int .i64 (k : Int)] w fun e w' => e = .returned (.string ⟨(chunkAt ps k p).toArray⟩) ∧ Below w.heap.size w w' := by
  have hkn : k < n := by rw [← hn]; exact (List.getElem?_eq_some_iff.1 hk).1
  have hat := rgt_at ps true false [] hr k p hk
  have hch : chunk (decide (k = 0)) (was1 ps k) p (ps.drop (k + 1)) = chunkAt ps k p := rfl
  obtain ⟨R, hR⟩ : ∃ R : ByteArray, (⟨(chunkAt ps k p).toArray⟩ : ByteArray) = R := ⟨_, rfl⟩
  rw [hR]
  have hR' := Lib.hid hR
  obtain ⟨a1, a2, d1, d2, p0, p1, p2, p3⟩ := PcsAt.piece hP hb (Below.refl _ _) hk
  obtain ⟨kd, hkd⟩ : ∃ kd, p.kind = kd := ⟨_, rfl⟩
  obtain ⟨sp, hsp⟩ : ∃ sp, p.space = sp := ⟨_, rfl⟩
  rw [hkd] at p0
  rw [hsp] at p1
  have hP' := Lib.hid hP
  have hch' := Lib.hid hch
  have hal : Hid (Below w.heap.size w (w.alloc (.cells #[.int .i64 kd, .int .i64 sp, .string a1, .string a2] 75))) := Lib.hid ((Below.refl _ _).alloc (Nat.le_refl _) _)
  clear hP hch hR
  rcases hat with ⟨h1, h2, q, h3⟩ | ⟨h1, h2, h3⟩ | ⟨h1, h2⟩
  · have hk1 : kd = 1 := by rw [← hkd]; exact h1
    subst hk1
    have hnb : nameB p.name = true ∧ (0 ≤ p.space ∧ p.space ≤ 2) := ⟨(tag_eq h1 h2).2.2, (tag_eq h1 h2).2.1⟩
    have hn64 : a1.size ≤ 64 := by rw [Lib.size_eq, d1]; exact nameB_len hnb.1
    obtain ⟨y, hy, hyd, hyl⟩ := name_vals p a1 sp d1 hsp (by rw [← hsp]; exact hnb.2) hn64
    have cN := fun W => outName_any 1 sp a1 a2 y W hy hn64
    obtain ⟨nk, hnk⟩ : ∃ nk, q.kind = nk := ⟨_, rfl⟩
    have hq1 : w.cell? ⟨b, off + (k + 1) * 4, none⟩ = some (.int .i64 nk) := by rw [← hnk]; exact (hP'.out (k + 1) q h3).1
    have hcq : Hid (∀ W, Below w.heap.size w W → W.cell? ⟨b, off + (k + 1) * 4, none⟩ = some (.int .i64 nk)) := Lib.hid fun W hW => (hW.cell (p := ⟨b, off + (k + 1) * 4, none⟩) hb).trans hq1
    have hk1n : k + 1 < n := by rw [← hn]; exact (List.getElem?_eq_some_iff.1 h3).1
    have hRd : R.data.toList = 60 :: (nm p ++ (if decide (k = 0) = true then declS else []) ++ (if decide (nk = 2) = true then [47, 62] else [62])) := by
      rw [← hR'.out, ← hch'.out, chunk_o (by rw [h1]; decide), chunk_open h1 (okTag_text h2), next_at h3, hnk]
    obtain ⟨K, hK⟩ : ∃ K, k + 1 = K := ⟨_, rfl⟩
    have hKi : (k : Int) + 1 = (K : Int) := by omega
    rw [hK] at hcq hk1n
    obtain ⟨T1, hT1⟩ : ∃ T1, (⟨#[60]⟩ : ByteArray) ++ y = T1 := ⟨_, rfl⟩
    have l1 : T1.size ≤ 67 := by rw [cat_size hT1, show (⟨#[60]⟩ : ByteArray).size = 1 from rfl]; omega
    have e1 := cat_data hT1
    rw [hyd] at e1
    obtain ⟨T2, hT2⟩ : ∃ T2, T1 ++ (⟨#[32, 120, 109, 108, 110, 115, 58, 68, 61, 34, 68, 65, 86, 58, 34, 32, 120, 109, 108, 110, 115, 58, 67, 61, 34, 117, 114, 110, 58, 105, 101, 116, 102, 58, 112, 97, 114, 97, 109, 115, 58, 120, 109, 108, 58, 110, 115, 58, 99, 97, 114, 100, 100, 97, 118, 34]⟩ : ByteArray) = T2 := ⟨_, rfl⟩
    have l2 : T2.size ≤ 123 := by rw [cat_size hT2, show (⟨#[32, 120, 109, 108, 110, 115, 58, 68, 61, 34, 68, 65, 86, 58, 34, 32, 120, 109, 108, 110, 115, 58, 67, 61, 34, 117, 114, 110, 58, 105, 101, 116, 102, 58, 112, 97, 114, 97, 109, 115, 58, 120, 109, 108, 58, 110, 115, 58, 99, 97, 114, 100, 100, 97, 118, 34]⟩ : ByteArray).size = 56 from rfl]; omega
    have e2 := cat_data hT2
    have hK' := Lib.hid hK
    have hrw : R = (if k = 0 then T2 else T1) ++ (if nk = 2 then (⟨#[47, 62]⟩ : ByteArray) else ⟨#[62]⟩) := by
      refine data_is ?_
      rw [hRd, ByteArray.data_append, Array.toList_append]
      by_cases hk0 : k = 0 <;> by_cases hn2 : nk = 2 <;> simp [hk0, hn2, e1, e2] <;> rfl
    have hDD := Lib.hid (fun (W : World) => (show (Op.stringOp .add T1 ⟨#[32, 120, 109, 108, 110, 115, 58, 68, 61, 34, 68, 65, 86, 58, 34, 32, 120, 109, 108, 110, 115, 58, 67, 61, 34, 117, 114, 110, 58, 105, 101, 116, 102, 58, 112, 97, 114, 97, 109, 115, 58, 120, 109, 108, 58, 110, 115, 58, 99, 97, 114, 100, 100, 97, 118, 34]⟩).run Tryz.prog W = .ok (.string T2) W from by rw [← hT2]; exact run_string_add_sum W _ _ (by rw [show (⟨#[32, 120, 109, 108, 110, 115, 58, 68, 61, 34, 68, 65, 86, 58, 34, 32, 120, 109, 108, 110, 115, 58, 67, 61, 34, 117, 114, 110, 58, 105, 101, 116, 102, 58, 112, 97, 114, 97, 109, 115, 58, 120, 109, 108, 58, 110, 115, 58, 99, 97, 114, 100, 100, 97, 118, 34]⟩ : ByteArray).size = 56 from rfl]; omega)))
    clear hRd e1 e2 hT2 d1 d2 hkd hsp h1 h2 hk hr hyd hy hq1 hnk hK hnb
    have hsplit : ∃ (Kb Nb : Bool), ((k : Int) == 0) = Kb ∧ (k == 0) = Kb ∧ (nk == 2) = Nb ∧ R = (if Kb = true then T2 else T1) ++ (if Nb = true then (⟨#[47, 62]⟩ : ByteArray) else ⟨#[62]⟩) := by
      refine ⟨decide (k = 0), decide (nk = 2), ?_, ?_, ?_, ?_⟩
      · rw [Bool.eq_iff_iff, beq_iff_eq, decide_eq_true_iff]; omega
      · rw [Bool.eq_iff_iff, beq_iff_eq, decide_eq_true_iff]
      · rw [Bool.eq_iff_iff, beq_iff_eq, decide_eq_true_iff]
      · rw [hrw]
        by_cases hk0 : k = 0 <;> by_cases hn2 : nk = 2 <;> simp [hk0, hn2]
    clear hrw
    obtain ⟨Kb, Nb, s1, s2, s3, hrw⟩ := hsplit
    have hkn' : (k : Int) < (n : Int) := by omega
    have hKn' : (K : Int) < (n : Int) := by omega
    have hK0 : (0 : Int) ≤ (K : Int) := by omega
    cases Kb with
    | false =>
      clear hDD
      rw [if_neg (by decide)] at hrw
      cases Nb
      all_goals
        replace hrw := hrw.symm
        first | rw [if_neg (by decide)] at hrw | rw [if_pos rfl] at hrw
        go_enter Tryz.func85, Tryz.ntmps85
        go_wp2_with fail
        go_at_call 111
        refine (cN _).mono ?_
        rintro e w2 ⟨rfl, hb2⟩
        have hb2' := Lib.hid (hal.out.trans (hb2.mono hal.out.size))
        have hc2' := hcq.out w2 hb2'.out
        clear cN hb2
        go_wp2
        go_ret
        exact ⟨rfl, hb2'.out⟩
    | true =>
      have hD2 := hDD.out
      rw [if_pos rfl] at hrw
      cases Nb
      all_goals
        replace hrw := hrw.symm
        first | rw [if_neg (by decide)] at hrw | rw [if_pos rfl] at hrw
        go_enter Tryz.func85, Tryz.ntmps85
        go_wp2_with fail
        go_at_call 111
        refine (cN _).mono ?_
        rintro e w2 ⟨rfl, hb2⟩
        have hb2' := Lib.hid (hal.out.trans (hb2.mono hal.out.size))
        have hc2' := hcq.out w2 hb2'.out
        clear cN hb2
        go_wp2
        go_ret
        exact ⟨rfl, hb2'.out⟩
  · have hk2 : kd = 2 := by rw [← hkd]; exact h1
    subst hk2
    have hnb : nameB p.name = true ∧ (0 ≤ p.space ∧ p.space ≤ 2) := ⟨(tag_eq h1 h2).2.2, (tag_eq h1 h2).2.1⟩
    have hn64 : a1.size ≤ 64 := by rw [Lib.size_eq, d1]; exact nameB_len hnb.1
    obtain ⟨y, hy, hyd, hyl⟩ := name_vals p a1 sp d1 hsp (by rw [← hsp]; exact hnb.2) hn64
    have cN := fun W => outName_any 2 sp a1 a2 y W hy hn64
    have hkp : 0 < k := by
      rcases Nat.eq_zero_or_pos k with h | h
      · exact absurd rfl (h3 h)
      · exact h
    obtain ⟨K, hK⟩ : ∃ K, k - 1 = K := ⟨_, rfl⟩
    have hq : ps[K]? = some (ps[K]'(by omega)) := List.getElem?_eq_getElem _
    obtain ⟨q, hqe⟩ : ∃ q, ps[K]'(by omega) = q := ⟨_, rfl⟩
    rw [hqe] at hq
    obtain ⟨nk, hnk⟩ : ∃ nk, q.kind = nk := ⟨_, rfl⟩
    have hq1 : w.cell? ⟨b, off + K * 4, none⟩ = some (.int .i64 nk) := by rw [← hnk]; exact (hP'.out K q hq).1
    have hcq : Hid (∀ W, Below w.heap.size w W → W.cell? ⟨b, off + K * 4, none⟩ = some (.int .i64 nk)) := Lib.hid fun W hW => (hW.cell (p := ⟨b, off + K * 4, none⟩) hb).trans hq1
    have hw1 : was1 ps k = decide (nk = 1) := by rw [← hnk]; exact was1_at hkp (by rw [hK]; exact hq)
    have hKi : (k : Int) - 1 = (K : Int) := by omega
    have hK0 : (0 : Int) ≤ (K : Int) := by omega
    have hKn' : (K : Int) < (n : Int) := by omega
    have hRd : R.data.toList = (if decide (nk = 1) = true then [] else 60 :: 47 :: (nm p ++ [62])) := by
      rw [← hR'.out, ← hch'.out, decide_eq_false (by omega), hw1]
      cases decide (nk = 1) with
      | true => rw [chunk_shut h1 (okTag_text h2)]; rfl
      | false => rw [chunk_close h1 (okTag_text h2)]; rfl
    by_cases hn1 : nk = 1
    · subst hn1
      have hRe : R = ⟨#[]⟩ := data_is (by rw [hRd]; rfl)
      subst hRe
      clear hRd cN hy hyd d1 d2 hkd hsp h1 h2 h3 hk hr hnb hqe hq hnk hw1 hK
      go_enter Tryz.func85, Tryz.ntmps85
      go_wp2
      go_ret
      exact ⟨rfl, hal.out⟩
    · have s3 : (nk == 1) = false := beq_eq_false_iff_ne.2 hn1
      obtain ⟨T1, hT1⟩ : ∃ T1, (⟨#[60, 47]⟩ : ByteArray) ++ y = T1 := ⟨_, rfl⟩
      have l1 : T1.size ≤ 68 := by rw [cat_size hT1, show (⟨#[60, 47]⟩ : ByteArray).size = 2 from rfl]; omega
      have e1 := cat_data hT1
      rw [hyd] at e1
      have hrw : T1 ++ (⟨#[62]⟩ : ByteArray) = R := by
        refine data_is ?_
        rw [hRd, decide_eq_false hn1, ByteArray.data_append, Array.toList_append, e1]
        rfl
      clear hRd e1 hy hyd d1 d2 hkd hsp h1 h2 h3 hk hr hnb hqe hq hnk hw1 hK hn1
      go_enter Tryz.func85, Tryz.ntmps85
      go_wp2_with fail
      go_at_call 111
      refine (cN _).mono ?_
      rintro e w2 ⟨rfl, hb2⟩
      have hb2' := Lib.hid (hal.out.trans (hb2.mono hal.out.size))
      clear cN hb2
      go_wp2
      go_ret
      exact ⟨rfl, hb2'.out⟩
  · have hk3 : kd = 3 := by rw [← hkd]; exact h1
    subst hk3
    have cE := escape_any a2
    have hRe : R = ⟨(escT a2.data.toList).toArray⟩ := by
      rw [← hR'.out, ← hch'.out, chunk_chars hkd, d2]
    rw [hRe]
    have ht2 : a2.size ≤ 68719476736 := by rw [Lib.size_eq, d2]; exact ht
    clear hRe d1 d2 hkd hsp h1 h2 hk hr
    go_enter Tryz.func85, Tryz.ntmps85
    go_wp2_with fail
    go_at_call 110
    refine (cE _ ht2).mono ?_
    rintro e w2 ⟨rfl, hb2⟩
    have hb2' := Lib.hid (hal.out.trans (hb2.mono hal.out.size))
    clear cE hb2
    go_wp2
    go_ret
    exact ⟨rfl, hb2'.out⟩
end Go.Proofs.YtmmpojhjpghdlaaGreatDoor.Xm

/-
  WALKS OF strings.Builder AT THIS DUMP (its copyCheck holds a statement that the loader refuses, on a way that no builder of the call's own takes): copyCheck, WriteString, WriteByte, String, over a builder that the call made.
-/
set_option linter.unusedVariables false
namespace Go.Proofs.YtmmpojhjpghdlaaGreatDoor.Bu
open Go.Lib Go.RowKit Go.Shelf

/-- a builder of the call's own, in block b, that holds the bytes l; the call's own blocks begin at B -/
def Bd (B b : Nat) (l : List UInt8) (w : World) : Prop := IsBuilderF 94 5 B b (byteCells l) w

theorem sizeB : (Tryz.prog.info? 94).map (·.size) = some 2 := by kernel_rfl
theorem liesB : liesAt Tryz.prog Tryz.prog.depth 94 (2 / Tryz.prog.cellsOf 94) 0 94 1 = true := by kernel_rfl
theorem infoU8 : (Tryz.prog.info? 5).map (fun i => (i.zero, i.size, i.bytes)) = some (some (.int .u8 0), 1, 1) := by kernel_rfl

theorem fresh (w : World) : Bd w.heap.size w.heap.size [] (w.alloc (.cells #[.pointer none, .slice none 0 0] 94)) := IsBuilderF.of (fresh_isBuilder _ _ w)
theorem Bd.kept {B b : Nat} {l : List UInt8} {w w' : World} (h : Bd B b l w) (hb : Below w.heap.size w w') : Bd B b l w' := by
  have main : ∀ p, BuilderAtF 94 5 B b p (byteCells l) w → BuilderAtF 94 5 B b p (byteCells l) w' := by
    rintro p ⟨h1, v, h2, h3, h4⟩
    refine ⟨h1, v, ?_, ?_, h4⟩
    · rw [hb.block b (Array.getElem?_eq_some_iff.1 h2).1]; exact h2
    · refine ⟨h3.1, ?_⟩
      rcases h3.2 with h | ⟨g, cap, cur, fz, e1, e2, e3, e4⟩
      · exact .inl h
      · exact .inr ⟨g, cap, cur, fz, e1, e2, by rw [hb.block g (Array.getElem?_eq_some_iff.1 e3).1]; exact e3, e4⟩
  exact h.elim (fun x => .inl (main _ x)) (fun x => .inr (main _ x))
theorem Bd.drew {B b : Nat} {l : List UInt8} {w : World} (h : Bd B b l w) : Bd B b l w.drew := h
theorem Bd.lt {B b : Nat} {l : List UInt8} {w : World} (h : Bd B b l w) : B ≤ b ∧ b < w.heap.size := by
  rcases h with ⟨h1, v, h2, _⟩ | ⟨h1, v, h2, _⟩ <;> exact ⟨h1, (Array.getElem?_eq_some_iff.1 h2).1⟩

/-- what is of another type than a builder's blocks is left -/
def KeptT (w w' : World) : Prop := ∀ (k : Nat) (cs : Array Value) (t : TypeId) (fr : Nat × Nat), w.heap[k]? = some (.cells cs t fr) → t ≠ 94 → t ≠ 5 → w'.heap[k]? = some (.cells cs t fr)
theorem KeptT.refl (w : World) : KeptT w w := fun _ _ _ _ h _ _ => h
theorem KeptT.trans {a b c : World} (h : KeptT a b) (k : KeptT b c) : KeptT a c := fun i cs t fr hi h1 h2 => k i cs t fr (h i cs t fr hi h1 h2) h1 h2
theorem KeptT.of_below {w w' : World} (h : Below w.heap.size w w') : KeptT w w' := fun i cs t fr hi _ _ => (h.block i (Array.getElem?_eq_some_iff.1 hi).1).trans hi
theorem KeptT.setCell {w : World} {b : Nat} {cs : Array Value} {fr : Nat × Nat} (hb : w.heap[b]? = some (.cells cs 94 fr)) (o : Nat) (u : Value) : KeptT w (w.setCell ⟨b, o, none⟩ u) := fun i cs' t fr' hi h1 _ => by
  rw [Below.heap_setCell w ⟨b, o, none⟩ u i (fun e => by
    have e : i = b := e
    subst e
    rw [hb] at hi
    injection hi with hi
    injection hi with _ ht
    exact h1 ht.symm)]
  exact hi
theorem KeptT.grown {w w' : World} {B : Nat} {size n : Nat} {v : Value} {xs : List Value} (h : w.ownsRowF B 5 size v n xs) (hg : w.grownBy w' v.ownBlock) : KeptT w w' := fun i cs t fr hi _ h2 => by
  rw [hg.block i (Array.getElem?_eq_some_iff.1 hi).1 (fun e => by
    rcases h.2 with ⟨hv, _⟩ | ⟨g, cap, cur, fz, hv, _, hh, _⟩
    · rw [hv] at e; cases e
    · rw [hv] at e
      have e : i = g := by simpa [Value.ownBlock] using e
      subst e
      rw [hi] at hh
      injection hh with hh
      injection hh with _ ht
      exact h2 ht)]
  exact hi

set_option maxHeartbeats 1000000 in
set_option maxRecDepth 100000 in
theorem check_new (b : Nat) (w : World) (h0 : w.cell? ⟨b, 0, none⟩ = some (.pointer none)) (hsh : w.shape? b = some (94, 2)) (hfz : w.frozen? ⟨b, 0, none⟩ = false) :
    Calls Tryz.prog 109 #[.pointer (some ⟨b, 0, none⟩)] w fun e w' => e = .returned (.tuple #[]) ∧ w' = w.setCell ⟨b, 0, none⟩ (.pointer (some ⟨b, 0, none⟩)) := by
  obtain ⟨j, hj, hjs⟩ := Option.map_eq_some_iff.1 sizeB
  go_enter Tryz.func109, Tryz.ntmps109
  go_wp2
  rw [Lib.run_to_unsafe w ⟨b, 0, none⟩ Tryz.underlying92 Tryz.underlying170 hj (by rw [hjs]; decide) hsh (Nat.zero_lt_succ 1)]
  simp only [Result.andThen]
  rw [Oper.upon_value]
  go_wp2
  rw [run_callFunc_extern Tryz.func126 (by kernel_rfl) (by kernel_rfl) (by kernel_rfl) (e := Extern.AbiNoEscape.same) (by kernel_rfl)]
  rw [Lib.run_noEscape]
  simp only [Result.andThen]
  rw [Oper.upon_value]
  go_wp2
  rw [Lib.run_from_unsafe w ⟨b, 0, none⟩ Tryz.underlying170 Tryz.underlying92 hj hsh liesB]
  simp only [Result.andThen]
  rw [Oper.upon_value]
  go_wp2
  go_end0
  exact ⟨rfl, rfl⟩

set_option maxHeartbeats 1000000 in
set_option maxRecDepth 100000 in
theorem check_old (b : Nat) (w : World) (h0 : w.cell? ⟨b, 0, none⟩ = some (.pointer (some ⟨b, 0, none⟩))) :
    Calls Tryz.prog 109 #[.pointer (some ⟨b, 0, none⟩)] w fun e w' => e = .returned (.tuple #[]) ∧ w' = w := by
  obtain ⟨j, hj, hjs⟩ := Option.map_eq_some_iff.1 sizeB
  go_enter Tryz.func109, Tryz.ntmps109
  go_wp2
  rw [Lib.run_neq_ptr_same w _ Tryz.underlying92 hj]
  go_wp2
  go_end0
  exact ⟨rfl, rfl⟩

/-- behind copyCheck -/
theorem check_any (B b : Nat) (l : List UInt8) (w : World) (h : Bd B b l w) :
    Calls Tryz.prog 109 #[.pointer (some ⟨b, 0, none⟩)] w fun e w' => e = .returned (.tuple #[]) ∧ BuilderAtF 94 5 B b (.pointer (some ⟨b, 0, none⟩)) (byteCells l) w' ∧ Below B w w' ∧ KeptT w w' := by
  rcases h with h | h
  · refine (check_new b w h.cell0 h.shape h.frozen0).mono ?_
    rintro e w' ⟨rfl, rfl⟩
    obtain ⟨_, _, hbk, _⟩ := id h
    exact ⟨rfl, h.used _, (Below.refl B w).setCell (p := ⟨b, 0, none⟩) h.1 _, KeptT.setCell hbk 0 _⟩
  · refine (check_old b w h.cell0).mono ?_
    rintro e w' ⟨rfl, rfl⟩
    exact ⟨rfl, h, Below.refl B _, KeptT.refl _⟩

set_option maxHeartbeats 1000000 in
set_option maxRecDepth 100000 in
theorem write_full (B b : Nat) (l : List UInt8) (s : ByteArray) (w : World) (h : Bd B b l w) (hlen : l.length + s.size ≤ 140737488355328) (hBw : B ≤ w.heap.size) :
    Calls Tryz.prog 84 #[.pointer (some ⟨b, 0, none⟩), .string s] w fun e w' => e = .returned (.tuple #[.int .i64 s.size, .nilIface]) ∧ Bd B b (l ++ s.data.toList) w' ∧ Below B w w' ∧ KeptT w w' := by
  obtain ⟨i0, hi, hz0, hz1, hz2⟩ := info_parts infoU8
  rw [← Lib.byteCells_length l] at hlen
  go_enter Tryz.func84, Tryz.ntmps84
  go_wp2_with (go_at_call 109; refine (check_any B b l _ h).mono ?_)
  rintro e w1 ⟨rfl, h1, hb1, ht1⟩
  obtain ⟨hB, v, hbk, hown, hne⟩ := h1
  have c0 : w1.cell? ⟨b, 0, none⟩ = some (.pointer (some ⟨b, 0, none⟩)) := by rw [Lib.cell_of_heap hbk]; rfl
  have c1 : w1.cell? ⟨b, 1, none⟩ = some v := by rw [Lib.cell_of_heap hbk]; rfl
  go_wp2_with (at_builtin; refine Lib.wpList_append_own_stringF _ rfl _ _ 88 9 rfl B 5 i0 Tryz.underlying88 Tryz.underlying9 hi hz0 hz1 hz2 _ _ _ rfl hown s rfl ?c3 ?c4 ?c5 ?_)
  case c3 => unfold maxLen; omega
  case c4 => omega
  case c5 => have := hb1.size; omega
  intro v' w2 hown' hgrow _
  have hlt : b < w1.heap.size := (Array.getElem?_eq_some_iff.1 hbk).1
  have hb2 : w2.heap[b]? = some (.cells #[.pointer (some ⟨b, 0, none⟩), v] 94 (0, 0)) := by
    rw [hgrow.block b hlt (fun e => hne e.symm)]
    exact hbk
  have d0 : w2.cell? ⟨b, 0, none⟩ = some (.pointer (some ⟨b, 0, none⟩)) := by rw [Lib.cell_of_heap hb2]; rfl
  have d1 : w2.cell? ⟨b, 1, none⟩ = some v := by rw [Lib.cell_of_heap hb2]; rfl
  have f1 : w2.frozen? ⟨b, 1, none⟩ = false := Lib.frozen_of_heap hb2 1
  have ht2 : KeptT w w2 := ht1.trans (KeptT.grown hown hgrow)
  have hb2' := Lib.hid hb2
  have ht2' := Lib.hid ht2
  clear ht1 ht2
  obtain ⟨ao, n', cap, rfl⟩ : ∃ ao n' cap, v' = .slice ao n' cap := by
    rcases hown'.2 with ⟨hv, _⟩ | ⟨g, cap, cur, fz, hv, _⟩
    · exact ⟨_, _, _, hv⟩
    · exact ⟨_, _, _, hv⟩
  go_wp2
  go_ret2
  refine ⟨rfl, .inr ?_, ?_, ht2'.out.trans (KeptT.setCell hb2'.out 1 _)⟩
  · have e : byteCells (l ++ s.data.toList) = byteCells l ++ strCells s := by rw [byteCells_append]; rfl
    rw [e]
    exact Lib.BuilderAtF.put (T := 94) (e := 5) hB hb2 (bs' := byteCells l ++ strCells s) (by simpa [Lib.strCells_length] using hown') (by decide)
  · exact (hb1.grown hgrow (by have := hb1.size; omega) (fun k hk => (hown.lt k hk).1)).setCell (p := ⟨b, 1, none⟩) hB _

theorem write_any (B b : Nat) (l : List UInt8) (s : ByteArray) (w : World) (h : Bd B b l w) (hlen : l.length + s.size ≤ 140737488355328) (hBw : B ≤ w.heap.size) :
    Calls Tryz.prog 84 #[.pointer (some ⟨b, 0, none⟩), .string s] w fun e w' => e = .returned (.tuple #[.int .i64 s.size, .nilIface]) ∧ Bd B b (l ++ s.data.toList) w' ∧ Below B w w' :=
  (write_full B b l s w h hlen hBw).mono fun e w' ⟨h1, h2, h3, _⟩ => ⟨h1, h2, h3⟩


theorem text_any (B b : Nat) (l : List UInt8) (w : World) (h : Bd B b l w) (hBw : B ≤ w.heap.size) :
    Calls Tryz.prog 87 #[.pointer (some ⟨b, 0, none⟩)] w fun e w' => e = .returned (.string ⟨l.toArray⟩) ∧ Bd B b l w' ∧ Below B w w' :=
  (Tryz.Builder_String_any_f B b l w h hBw).mono fun e w' ⟨h1, h2, h3⟩ => ⟨h1, h2, h3⟩
end Go.Proofs.YtmmpojhjpghdlaaGreatDoor.Bu
