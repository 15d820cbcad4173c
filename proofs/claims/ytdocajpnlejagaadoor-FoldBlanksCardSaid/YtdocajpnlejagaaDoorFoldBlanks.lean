/-
  THE WALK OF THE STATEMENT FoldBlanks: for every line within the reach and every slice of ints.
-/
import Derived.Test.YtdocajpnlejagaaDoorFoldFirst
import Derived.Test.YtdocajpnlejagaaDoorFoldGood
import Derived.RegionTactic
import Derived.ChangeAlike
set_option linter.unusedVariables false
namespace Go.Proofs.YtdocajpnlejagaaDoor.Fo
open Go.Lib Go.RowKit Bu

/-- what has been laid so far unfolds to the line's beginning -/
def InvB (L s : Row) (a : Nat) : Prop := (∀ (p : Row) (cr : Bool) (rest : Row), p ≠ [] → plain p → (a = 0 → headBl p = false) → R [] (s ++ (p ++ (if cr then [13] else []) ++ 10 :: rest)) = R [L.take a ++ p] rest) ∧ True
theorem invB_zero (L : Row) : InvB L [] 0 := ⟨fun p cr rest hne hp hb => by
  rw [List.nil_append, R_row [] p rest cr hp, gstep_new [] p (ok_of p hne hp.1) (hb rfl)]
  simp, trivial⟩
theorem invB_step (L s : Row) (a k : Nat) (cr : Bool) (b : UInt8) (h : InvB L s a) (hp : plain L) (hk : 1 ≤ k) (hak : a + k < L.length) (h0 : headBl L = false) (hb : bl b = true) :
    InvB L (s ++ ((L.drop a).take k ++ ((if cr then [13] else []) ++ [10, b]))) (a + k) := ⟨fun p cr2 rest hne hpp _ => by
  have hpc : plain ((L.drop a).take k) := plain_take _ _ (plain_drop _ _ hp)
  have hnc : (L.drop a).take k ≠ [] := fun e => by
    rcases List.take_eq_nil_iff.1 e with e | e
    · omega
    · have := List.drop_eq_nil_iff.1 e; omega
  have hhc : a = 0 → headBl ((L.drop a).take k) = false := fun e => by rw [e, List.drop_zero, headBl_take _ _ hk]; exact h0
  have e : s ++ ((L.drop a).take k ++ ((if cr then [13] else []) ++ [10, b])) ++ (p ++ (if cr2 then [13] else []) ++ 10 :: rest) =
      s ++ ((L.drop a).take k ++ (if cr then [13] else []) ++ 10 :: (b :: p ++ (if cr2 then [13] else []) ++ 10 :: rest)) := by simp
  rw [e, h.1 _ cr _ hnc hpc hhc]
  have e2 := R_on [] (L.take a ++ (L.drop a).take k) p rest b cr2 hb hpp
  rw [List.nil_append] at e2
  rw [e2, ← List.take_add]
  rfl, trivial⟩

def BlRel (x : ByteArray) (w : World) (s5 s6 s24 : Value) (wr : World) : Prop :=
  ∃ (s : ByteArray) (a j : Nat), s5 = .string s ∧ s6 = .int .i64 (a : Int) ∧ s24 = .int .i64 (j : Int) ∧ a < x.size ∧ s.size ≤ a + 3 * j ∧ j ≤ 20 ∧ InvB x.data.toList s.data.toList a ∧ Below w.heap.size w wr

set_option maxHeartbeats 8000000 in
set_option maxRecDepth 100000 in
theorem blanks_walk (x : ByteArray) (p0 : Option Addr) (b off cap : Nat) (zs : List Int) (w : World) (hT : Tabs w) (hs : x.size ≤ 140737488355328) (hzl : zs.length ≤ 9223372036854775807) (hp0 : zs ≠ [] → p0 = some ⟨b, off, none⟩ ∧ b < w.heap.size)
    (hc : ∀ j, j < zs.length → w.cell? ⟨b, off + j, none⟩ = some (.int .i64 (zs.getD j 0))) (hzs : ∀ n ∈ zs, -9223372036854775808 ≤ n ∧ n ≤ 9223372036854775807) :
    Calls Tryd.prog 6 #[.string x, .slice p0 zs.length cap] w fun e w' => e = .returned (.bool true) ∧ Below w.heap.size w w' := by
  have hT' := Lib.hid hT
  have hc' := Lib.hid hc
  have hzs' := Lib.hid hzs
  have hp0' := Lib.hid hp0
  clear hT hc hzs hp0
  have cG := fun W => good_any x W (by omega)
  obtain ⟨n, hn⟩ : ∃ n, zs.length = n := ⟨_, rfl⟩
  rw [hn] at hzl ⊢
  have hn' := Lib.hid hn
  clear hn
  cases hv : goodL x.data.toList
  · rw [hv] at cG
    clear hv
    go_enter Tryd.func6, Tryd.ntmps6
    go_wp2_with (first
      | (go_at_call 7; refine (first_any w hT'.out).mono ?_; rintro e w1 ⟨rfl, hb1⟩)
      | (go_at_call 13; refine (cG _).mono ?_; rintro e w2 ⟨rfl, hb2⟩))
    go_ret
    exact ⟨rfl, below_then hb1 hb2⟩
  · rw [hv] at cG
    obtain ⟨hne, hhb, hpl⟩ := goodL_tells _ hv
    have hxp : 0 < x.size := by rw [Lib.size_eq]; exact List.length_pos_iff.2 hne
    have hhb' := Lib.hid hhb
    have hpl' := Lib.hid hpl
    clear hv hne hhb hpl
    by_cases hbig : 2000 < x.size
    · have d2 : decide ((2000 : Int) < (x.size : Int)) = true := decide_eq_true (by omega)
      clear hbig
      go_enter Tryd.func6, Tryd.ntmps6
      go_wp2_with (first
        | (go_at_call 7; refine (first_any w hT'.out).mono ?_; rintro e w1 ⟨rfl, hb1⟩)
        | (go_at_call 13; refine (cG _).mono ?_; rintro e w2 ⟨rfl, hb2⟩))
      go_ret
      exact ⟨rfl, below_then hb1 hb2⟩
    · have d2 : decide ((2000 : Int) < (x.size : Int)) = false := decide_eq_false (by omega)
      have hx2 : x.size ≤ 2000 := by omega
      clear hbig
      go_enter Tryd.func6, Tryd.ntmps6
      go_wp2_with (first
        | (go_at_call 7; refine (first_any w hT'.out).mono ?_; rintro e w1 ⟨rfl, hb1⟩)
        | (go_at_call 13; refine (cG _).mono ?_; rintro e w2 ⟨rfl, hb2⟩))
      have hb12 := below_then hb1 hb2
      clear hb1 hb2 cG
      go_loopw [5, 6, 24] (fun s5 s6 s24 wr => BlRel x w s5 s6 s24 wr) (fun _ _ s24 wr => n - (RowKit.intOf s24).toNat)
      case atStart => exact ⟨⟨#[]⟩, 0, 0, rfl, rfl, rfl, hxp, Nat.zero_le _, by omega, invB_zero _, hb12⟩
      case round =>
        obtain ⟨s, a, j, rfl, rfl, rfl, ha, hsz, hj, hI, hbw⟩ := hrel
        have hI' := Lib.hid hI
        clear hI
        by_cases hjn : j < n
        · have hjl : j < zs.length := by rw [hn'.out]; exact hjn
          obtain ⟨rfl, hb⟩ := hp0'.out (fun h => by rw [h] at hjl; exact absurd hjl (Nat.not_lt_zero _))
          have hcell : wr.cell? ⟨b, off + j, none⟩ = some (.int .i64 (zs.getD j 0)) := by rw [hbw.cell (p := ⟨b, off + j, none⟩) hb]; exact hc'.out j hjl
          have hcb := hzs'.out (zs.getD j 0) (by rw [List.getD_eq_getElem?_getD, List.getElem?_eq_getElem hjl]; exact List.getElem_mem hjl)
          obtain ⟨c, hcc⟩ : ∃ c, zs.getD j 0 = c := ⟨_, rfl⟩
          rw [hcc] at hcell hcb
          obtain ⟨hc1, hc2⟩ := hcb
          obtain ⟨U, hU⟩ : ∃ U : Nat, IntKind.u64.wrap c = (U : Int) := ⟨(IntKind.u64.wrap c).toNat, by rw [IntKind.wrap_u64]; omega⟩
          obtain ⟨K, hK⟩ : ∃ K : Nat, (U : Int) % 7 = (K : Int) := ⟨U % 7, by omega⟩
          have hK6 : K ≤ 6 := by omega
          obtain ⟨K1, hK1⟩ : ∃ K1 : Nat, (1 : Int) + (K : Int) = (K1 : Int) := ⟨1 + K, by omega⟩
          obtain ⟨A, hA⟩ : ∃ A : Nat, (a : Int) + (K1 : Int) = (A : Int) := ⟨a + K1, by omega⟩
          have hK11 : 1 ≤ K1 := by omega
          have hK17 : K1 ≤ 7 := by omega
          have hAa : a + K1 ≤ A := by omega
          have hAa2 : A ≤ a + K1 := by omega
          clear hcc hjl
          by_cases hend : 20 ≤ j ∨ x.size ≤ A
          · have hbr : 20 ≤ j ∨ (j < 20 ∧ x.size ≤ A) := by omega
            clear hend
            rcases hbr with d20 | ⟨d20, d21⟩
            · have hyes : j < n := hjn
              have hfinal := Lib.hid (hI'.out.1 (x.data.toList.drop a) false [] (by
                intro h0
                have := List.drop_eq_nil_iff.1 h0
                rw [← Lib.size_eq] at this
                omega) (plain_drop _ _ hpl'.out) (fun h0 => by rw [h0, List.drop_zero]; exact hhb'.out))
              obtain ⟨x1, hx1⟩ : ∃ x1, x.extract a x.size = x1 := ⟨_, rfl⟩
              have hdr : x1.data.toList = x.data.toList.drop a := by rw [← hx1]; exact Lib.extract_to_end x a
              have hx1z : x1.size ≤ 2000 := by rw [← hx1, ByteArray.size_extract]; omega
              have hz1 : ¬ 9223372036854775807 < x1.size + 1 := by omega
              obtain ⟨y, hy⟩ : ∃ y, x1 ++ (⟨#[10]⟩ : ByteArray) = y := ⟨_, rfl⟩
              have hyd : y.data.toList = x.data.toList.drop a ++ [10] := by rw [← hy, ByteArray.data_append, Array.toList_append, hdr]
              have hyz : y.size ≤ 2001 := by rw [Lib.size_eq, hyd, List.length_append, List.length_drop, ← Lib.size_eq]; simp; omega
              have hz2 : ¬ 9223372036854775807 < s.size + y.size := by omega
              obtain ⟨z, hz⟩ : ∃ z, s ++ y = z := ⟨_, rfl⟩
              have hzd : z.data.toList = s.data.toList ++ y.data.toList := by rw [← hz, ByteArray.data_append, Array.toList_append]
              have hzs : z.size ≤ 1099511627776 := by rw [Lib.size_eq, hzd, List.length_append, ← Lib.size_eq, ← Lib.size_eq]; omega
              have hRz : R [] z.data.toList = some [x.data.toList] := by
                have h := hfinal.out
                rw [List.take_append_drop, R_nil] at h
                rw [hzd, hyd]
                simpa using h
              have hRz' := Lib.hid hRz
              clear hfinal hdr hyd hyz hzd hRz
              go_wp2_with fail
              go_at_call 8
              refine (unfold_any z _ hzs).mono ?_
              rintro e w9 ⟨hU, hb9⟩
              rcases hU with ⟨v, out, rfl, hR, hown⟩ | ⟨rfl, hR⟩
              · obtain rfl : out = [x.data.toList] := by
                  have := hR.symm.trans hRz'.out
                  simpa using this
                rcases hown.reads with ⟨_, h⟩ | ⟨g9, cap9, rfl, _, hg9, hrd9⟩
                · cases h
                · have c9 : w9.cell? ⟨g9, 0, none⟩ = some (.string x) := by
                    have := hrd9.cell 0 (by simp) x (by simp [sv_data])
                    simpa using this
                  clear hR hown hrd9
                  simp only [List.length_singleton]
                  go_wp2
                  go_ret
                  exact ⟨rfl, below_then hbw hb9⟩
              · rw [hRz'.out] at hR
                cases hR
            · have hyes : j < n := hjn
              have hfinal := Lib.hid (hI'.out.1 (x.data.toList.drop a) false [] (by
                intro h0
                have := List.drop_eq_nil_iff.1 h0
                rw [← Lib.size_eq] at this
                omega) (plain_drop _ _ hpl'.out) (fun h0 => by rw [h0, List.drop_zero]; exact hhb'.out))
              obtain ⟨x1, hx1⟩ : ∃ x1, x.extract a x.size = x1 := ⟨_, rfl⟩
              have hdr : x1.data.toList = x.data.toList.drop a := by rw [← hx1]; exact Lib.extract_to_end x a
              have hx1z : x1.size ≤ 2000 := by rw [← hx1, ByteArray.size_extract]; omega
              have hz1 : ¬ 9223372036854775807 < x1.size + 1 := by omega
              obtain ⟨y, hy⟩ : ∃ y, x1 ++ (⟨#[10]⟩ : ByteArray) = y := ⟨_, rfl⟩
              have hyd : y.data.toList = x.data.toList.drop a ++ [10] := by rw [← hy, ByteArray.data_append, Array.toList_append, hdr]
              have hyz : y.size ≤ 2001 := by rw [Lib.size_eq, hyd, List.length_append, List.length_drop, ← Lib.size_eq]; simp; omega
              have hz2 : ¬ 9223372036854775807 < s.size + y.size := by omega
              obtain ⟨z, hz⟩ : ∃ z, s ++ y = z := ⟨_, rfl⟩
              have hzd : z.data.toList = s.data.toList ++ y.data.toList := by rw [← hz, ByteArray.data_append, Array.toList_append]
              have hzs : z.size ≤ 1099511627776 := by rw [Lib.size_eq, hzd, List.length_append, ← Lib.size_eq, ← Lib.size_eq]; omega
              have hRz : R [] z.data.toList = some [x.data.toList] := by
                have h := hfinal.out
                rw [List.take_append_drop, R_nil] at h
                rw [hzd, hyd]
                simpa using h
              have hRz' := Lib.hid hRz
              clear hfinal hdr hyd hyz hzd hRz
              go_wp2_with fail
              go_at_call 8
              refine (unfold_any z _ hzs).mono ?_
              rintro e w9 ⟨hU, hb9⟩
              rcases hU with ⟨v, out, rfl, hR, hown⟩ | ⟨rfl, hR⟩
              · obtain rfl : out = [x.data.toList] := by
                  have := hR.symm.trans hRz'.out
                  simpa using this
                rcases hown.reads with ⟨_, h⟩ | ⟨g9, cap9, rfl, _, hg9, hrd9⟩
                · cases h
                · have c9 : w9.cell? ⟨g9, 0, none⟩ = some (.string x) := by
                    have := hrd9.cell 0 (by simp) x (by simp [sv_data])
                    simpa using this
                  clear hR hown hrd9
                  simp only [List.length_singleton]
                  go_wp2
                  go_ret
                  exact ⟨rfl, below_then hbw hb9⟩
              · rw [hRz'.out] at hR
                cases hR
          · have hj20 : j < 20 := by omega
            have hak : A < x.size := by omega
            clear hend
            obtain ⟨D, hD⟩ : ∃ D : Nat, (U : Int) / 7 = (D : Int) := ⟨U / 7, by omega⟩
            have hDw : IntKind.u64.wrap ((U : Int) / 7) = (D : Int) := by
              have h1 := hU
              rw [IntKind.wrap_u64] at h1
              rw [hD, IntKind.wrap_u64]
              omega
            have hDm : (D : Int).tmod 4 = ((D % 4 : Nat) : Int) := by rw [Int.tmod_eq_emod_of_nonneg (by omega)]; omega
            clear hD
            have hQ4 : D % 4 = 0 ∨ D % 4 = 1 ∨ D % 4 = 2 ∨ D % 4 = 3 := by omega
            rcases hQ4 with hQ | hQ | hQ | hQ <;> rw [hQ] at hDm <;> clear hQ
            · have hp : ∃ p, x.extract a A = p := ⟨_, rfl⟩
              obtain ⟨p, hp⟩ := hp
              have hpd : p.data.toList = (x.data.toList.drop a).take K1 := by rw [← hp, Lib.extract_data, show A - a = K1 by omega]
              have hpz : p.size = K1 := by rw [Lib.size_eq, hpd, List.length_take, List.length_drop, ← Lib.size_eq]; omega
              have hsz1 : ¬ 9223372036854775807 < p.size + 2 := by omega
              obtain ⟨q, hq⟩ : ∃ q, p ++ (⟨#[10, 32]⟩ : ByteArray) = q := ⟨_, rfl⟩
              have hqd : q.data.toList = p.data.toList ++ [10, 32] := by rw [← hq, ByteArray.data_append, Array.toList_append]
              have hqz : q.size = K1 + 2 := by rw [Lib.size_eq, hqd, List.length_append, ← Lib.size_eq, hpz]; rfl
              have hqs : q.size ≤ K1 + 3 := by omega
              have hsz2 : ¬ 9223372036854775807 < s.size + q.size := by omega
              obtain ⟨s2, hs2⟩ : ∃ s2, s ++ q = s2 := ⟨_, rfl⟩
              have hs2d : s2.data.toList = s.data.toList ++ q.data.toList := by rw [← hs2, ByteArray.data_append, Array.toList_append]
              have hs2z : s2.size ≤ A + 3 * (j + 1) := by rw [Lib.size_eq, hs2d, List.length_append, ← Lib.size_eq, ← Lib.size_eq]; omega
              have hIn : InvB x.data.toList s2.data.toList A := by
                have h := invB_step _ _ a K1 false 32 hI'.out hpl'.out (by omega) (by rw [← Lib.size_eq]; omega) hhb'.out (by decide)
                rw [show a + K1 = A by omega] at h
                rw [hs2d, hqd, hpd]
                exact h
              have hIn' := Lib.hid hIn
              have hs2z' := Lib.hid hs2z
              have i1 : (a : Int) ≤ (A : Int) := by omega
              have i2 : (A : Int) ≤ (x.size : Int) := by omega
              have i3 : (0 : Int) ≤ (a : Int) := by omega
              have i4 : ¬ (A : Int) < (a : Int) := by omega
              have i5 : ¬ (x.size : Int) < (A : Int) := by omega
              clear hIn hs2z hs2d hqd hqz hpd hpz hqs
              go_wp2
              go_region
              all_goals (go_wp2; go_roundw)
              case rel => exact ⟨s2, A, j + 1, rfl, rfl, by go_num, by omega, hs2z'.out, by omega, hIn'.out, (hbw.alloc hbw.size _).drew⟩
              case measure => simp [RowKit.intOf]; omega
            · have hp : ∃ p, x.extract a A = p := ⟨_, rfl⟩
              obtain ⟨p, hp⟩ := hp
              have hpd : p.data.toList = (x.data.toList.drop a).take K1 := by rw [← hp, Lib.extract_data, show A - a = K1 by omega]
              have hpz : p.size = K1 := by rw [Lib.size_eq, hpd, List.length_take, List.length_drop, ← Lib.size_eq]; omega
              have hsz1 : ¬ 9223372036854775807 < p.size + 2 := by omega
              obtain ⟨q, hq⟩ : ∃ q, p ++ (⟨#[10, 9]⟩ : ByteArray) = q := ⟨_, rfl⟩
              have hqd : q.data.toList = p.data.toList ++ [10, 9] := by rw [← hq, ByteArray.data_append, Array.toList_append]
              have hqz : q.size = K1 + 2 := by rw [Lib.size_eq, hqd, List.length_append, ← Lib.size_eq, hpz]; rfl
              have hqs : q.size ≤ K1 + 3 := by omega
              have hsz2 : ¬ 9223372036854775807 < s.size + q.size := by omega
              obtain ⟨s2, hs2⟩ : ∃ s2, s ++ q = s2 := ⟨_, rfl⟩
              have hs2d : s2.data.toList = s.data.toList ++ q.data.toList := by rw [← hs2, ByteArray.data_append, Array.toList_append]
              have hs2z : s2.size ≤ A + 3 * (j + 1) := by rw [Lib.size_eq, hs2d, List.length_append, ← Lib.size_eq, ← Lib.size_eq]; omega
              have hIn : InvB x.data.toList s2.data.toList A := by
                have h := invB_step _ _ a K1 false 9 hI'.out hpl'.out (by omega) (by rw [← Lib.size_eq]; omega) hhb'.out (by decide)
                rw [show a + K1 = A by omega] at h
                rw [hs2d, hqd, hpd]
                exact h
              have hIn' := Lib.hid hIn
              have hs2z' := Lib.hid hs2z
              have i1 : (a : Int) ≤ (A : Int) := by omega
              have i2 : (A : Int) ≤ (x.size : Int) := by omega
              have i3 : (0 : Int) ≤ (a : Int) := by omega
              have i4 : ¬ (A : Int) < (a : Int) := by omega
              have i5 : ¬ (x.size : Int) < (A : Int) := by omega
              clear hIn hs2z hs2d hqd hqz hpd hpz hqs
              go_wp2
              go_region
              all_goals (go_wp2; go_roundw)
              case rel => exact ⟨s2, A, j + 1, rfl, rfl, by go_num, by omega, hs2z'.out, by omega, hIn'.out, (hbw.alloc hbw.size _).drew⟩
              case measure => simp [RowKit.intOf]; omega
            · have hp : ∃ p, x.extract a A = p := ⟨_, rfl⟩
              obtain ⟨p, hp⟩ := hp
              have hpd : p.data.toList = (x.data.toList.drop a).take K1 := by rw [← hp, Lib.extract_data, show A - a = K1 by omega]
              have hpz : p.size = K1 := by rw [Lib.size_eq, hpd, List.length_take, List.length_drop, ← Lib.size_eq]; omega
              have hsz1 : ¬ 9223372036854775807 < p.size + 3 := by omega
              obtain ⟨q, hq⟩ : ∃ q, p ++ (⟨#[13, 10, 32]⟩ : ByteArray) = q := ⟨_, rfl⟩
              have hqd : q.data.toList = p.data.toList ++ [13, 10, 32] := by rw [← hq, ByteArray.data_append, Array.toList_append]
              have hqz : q.size = K1 + 3 := by rw [Lib.size_eq, hqd, List.length_append, ← Lib.size_eq, hpz]; rfl
              have hqs : q.size ≤ K1 + 3 := by omega
              have hsz2 : ¬ 9223372036854775807 < s.size + q.size := by omega
              obtain ⟨s2, hs2⟩ : ∃ s2, s ++ q = s2 := ⟨_, rfl⟩
              have hs2d : s2.data.toList = s.data.toList ++ q.data.toList := by rw [← hs2, ByteArray.data_append, Array.toList_append]
              have hs2z : s2.size ≤ A + 3 * (j + 1) := by rw [Lib.size_eq, hs2d, List.length_append, ← Lib.size_eq, ← Lib.size_eq]; omega
              have hIn : InvB x.data.toList s2.data.toList A := by
                have h := invB_step _ _ a K1 true 32 hI'.out hpl'.out (by omega) (by rw [← Lib.size_eq]; omega) hhb'.out (by decide)
                rw [show a + K1 = A by omega] at h
                rw [hs2d, hqd, hpd]
                exact h
              have hIn' := Lib.hid hIn
              have hs2z' := Lib.hid hs2z
              have i1 : (a : Int) ≤ (A : Int) := by omega
              have i2 : (A : Int) ≤ (x.size : Int) := by omega
              have i3 : (0 : Int) ≤ (a : Int) := by omega
              have i4 : ¬ (A : Int) < (a : Int) := by omega
              have i5 : ¬ (x.size : Int) < (A : Int) := by omega
              clear hIn hs2z hs2d hqd hqz hpd hpz hqs
              go_wp2
              go_region
              all_goals (go_wp2; go_roundw)
              case rel => exact ⟨s2, A, j + 1, rfl, rfl, by go_num, by omega, hs2z'.out, by omega, hIn'.out, (hbw.alloc hbw.size _).drew⟩
              case measure => simp [RowKit.intOf]; omega
            · have hp : ∃ p, x.extract a A = p := ⟨_, rfl⟩
              obtain ⟨p, hp⟩ := hp
              have hpd : p.data.toList = (x.data.toList.drop a).take K1 := by rw [← hp, Lib.extract_data, show A - a = K1 by omega]
              have hpz : p.size = K1 := by rw [Lib.size_eq, hpd, List.length_take, List.length_drop, ← Lib.size_eq]; omega
              have hsz1 : ¬ 9223372036854775807 < p.size + 3 := by omega
              obtain ⟨q, hq⟩ : ∃ q, p ++ (⟨#[13, 10, 9]⟩ : ByteArray) = q := ⟨_, rfl⟩
              have hqd : q.data.toList = p.data.toList ++ [13, 10, 9] := by rw [← hq, ByteArray.data_append, Array.toList_append]
              have hqz : q.size = K1 + 3 := by rw [Lib.size_eq, hqd, List.length_append, ← Lib.size_eq, hpz]; rfl
              have hqs : q.size ≤ K1 + 3 := by omega
              have hsz2 : ¬ 9223372036854775807 < s.size + q.size := by omega
              obtain ⟨s2, hs2⟩ : ∃ s2, s ++ q = s2 := ⟨_, rfl⟩
              have hs2d : s2.data.toList = s.data.toList ++ q.data.toList := by rw [← hs2, ByteArray.data_append, Array.toList_append]
              have hs2z : s2.size ≤ A + 3 * (j + 1) := by rw [Lib.size_eq, hs2d, List.length_append, ← Lib.size_eq, ← Lib.size_eq]; omega
              have hIn : InvB x.data.toList s2.data.toList A := by
                have h := invB_step _ _ a K1 true 9 hI'.out hpl'.out (by omega) (by rw [← Lib.size_eq]; omega) hhb'.out (by decide)
                rw [show a + K1 = A by omega] at h
                rw [hs2d, hqd, hpd]
                exact h
              have hIn' := Lib.hid hIn
              have hs2z' := Lib.hid hs2z
              have i1 : (a : Int) ≤ (A : Int) := by omega
              have i2 : (A : Int) ≤ (x.size : Int) := by omega
              have i3 : (0 : Int) ≤ (a : Int) := by omega
              have i4 : ¬ (A : Int) < (a : Int) := by omega
              have i5 : ¬ (x.size : Int) < (A : Int) := by omega
              clear hIn hs2z hs2d hqd hqz hpd hpz hqs
              go_wp2
              go_region
              all_goals (go_wp2; go_roundw)
              case rel => exact ⟨s2, A, j + 1, rfl, rfl, by go_num, by omega, hs2z'.out, by omega, hIn'.out, (hbw.alloc hbw.size _).drew⟩
              case measure => simp [RowKit.intOf]; omega
        · have hjn' : n ≤ j := by omega
          have hfinal := Lib.hid (hI'.out.1 (x.data.toList.drop a) false [] (by
            intro h0
            have := List.drop_eq_nil_iff.1 h0
            rw [← Lib.size_eq] at this
            omega) (plain_drop _ _ hpl'.out) (fun h0 => by rw [h0, List.drop_zero]; exact hhb'.out))
          obtain ⟨x1, hx1⟩ : ∃ x1, x.extract a x.size = x1 := ⟨_, rfl⟩
          have hdr : x1.data.toList = x.data.toList.drop a := by rw [← hx1]; exact Lib.extract_to_end x a
          have hx1z : x1.size ≤ 2000 := by rw [← hx1, ByteArray.size_extract]; omega
          have hz1 : ¬ 9223372036854775807 < x1.size + 1 := by omega
          obtain ⟨y, hy⟩ : ∃ y, x1 ++ (⟨#[10]⟩ : ByteArray) = y := ⟨_, rfl⟩
          have hyd : y.data.toList = x.data.toList.drop a ++ [10] := by rw [← hy, ByteArray.data_append, Array.toList_append, hdr]
          have hyz : y.size ≤ 2001 := by rw [Lib.size_eq, hyd, List.length_append, List.length_drop, ← Lib.size_eq]; simp; omega
          have hz2 : ¬ 9223372036854775807 < s.size + y.size := by omega
          obtain ⟨z, hz⟩ : ∃ z, s ++ y = z := ⟨_, rfl⟩
          have hzd : z.data.toList = s.data.toList ++ y.data.toList := by rw [← hz, ByteArray.data_append, Array.toList_append]
          have hzs : z.size ≤ 1099511627776 := by rw [Lib.size_eq, hzd, List.length_append, ← Lib.size_eq, ← Lib.size_eq]; omega
          have hRz : R [] z.data.toList = some [x.data.toList] := by
            have h := hfinal.out
            rw [List.take_append_drop, R_nil] at h
            rw [hzd, hyd]
            simpa using h
          have hRz' := Lib.hid hRz
          clear hfinal hdr hyd hyz hzd hRz
          go_wp2_with fail
          go_at_call 8
          refine (unfold_any z _ hzs).mono ?_
          rintro e w9 ⟨hU, hb9⟩
          rcases hU with ⟨v, out, rfl, hR, hown⟩ | ⟨rfl, hR⟩
          · obtain rfl : out = [x.data.toList] := by
              have := hR.symm.trans hRz'.out
              simpa using this
            rcases hown.reads with ⟨_, h⟩ | ⟨g9, cap9, rfl, _, hg9, hrd9⟩
            · cases h
            · have c9 : w9.cell? ⟨g9, 0, none⟩ = some (.string x) := by
                have := hrd9.cell 0 (by simp) x (by simp [sv_data])
                simpa using this
              clear hR hown hrd9
              simp only [List.length_singleton]
              go_wp2
              go_ret
              exact ⟨rfl, below_then hbw hb9⟩
          · rw [hRz'.out] at hR
            cases hR

theorem blanks_at (x : ByteArray) (v : Value) (zs : List Int) (w : World) (hT : Tabs w) (hs : x.size ≤ 140737488355328)
    (h : ∃ (p0 : Option Addr) (b off cap : Nat), v = .slice p0 zs.length cap ∧ zs.length ≤ 9223372036854775807 ∧ (zs ≠ [] → p0 = some ⟨b, off, none⟩ ∧ b < w.heap.size) ∧
      (∀ j, j < zs.length → w.cell? ⟨b, off + j, none⟩ = some (.int .i64 (zs.getD j 0))) ∧ (∀ n ∈ zs, -9223372036854775808 ≤ n ∧ n ≤ 9223372036854775807)) :
    Calls Tryd.prog 6 #[.string x, v] w fun e w' => e = .returned (.bool true) ∧ Below w.heap.size w w' := by
  obtain ⟨p0, b, off, cap, rfl, hzl, h1, h2, h3⟩ := h
  exact blanks_walk x p0 b off cap zs w hT hs hzl h1 h2 h3
end Go.Proofs.YtdocajpnlejagaaDoor.Fo
