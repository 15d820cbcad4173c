/-
  CrcBursts: bytes that differ within 32 bits in a row alone have unlike sums.
-/
import Derived.Test.YtpngbfmbjldieaaCrcSmall
import Derived.Test.YtpngbfmbjldieaaCrcBurstP
import Derived.Test.YtpngbfmbjldieaaCrcEndsW
import Derived.Test.YtpngbfmbjldieaaCodLawB
set_option linter.unusedVariables false
namespace Go.Proofs.Ytpngbfmbjldieaa.Cr
open Go.Lib Go.RowKit
open Bo (Row Kp)
open Ly (BtsAt BOwn Wr own_some own_empty append_btsL append_rowL)

/-- a byte of a row of the call's own is stored -/
theorem own_set {w : World} {B g n cap : Nat} {l : Row} (h : BOwn B (.slice (some ⟨g, 0, none⟩) n cap) l w) (q : Nat) (y : UInt8) : BOwn B (.slice (some ⟨g, 0, none⟩) n cap) (l.set q y) (w.setCell ⟨g, q, none⟩ (.int .u8 (y.toNat : Int))) ∧ Kp [g] w (w.setCell ⟨g, q, none⟩ (.int .u8 (y.toNat : Int))) := by
  have hn : n = l.length := by
    rcases h.2 with ⟨h1, _⟩ | ⟨g', c', cur, h1, _⟩
    · cases h1
    · injection h1
  subst hn
  have h1 := (World.ownsRow.stored h q (.int .u8 (y.toNat : Int))).1
  refine ⟨?_, (Kp.refl _ _).setCell (.inl (by simp)) _⟩
  unfold BOwn
  rw [List.length_set, show Ly.bc (l.set q y) = (Ly.bc l).set q (.int .u8 (y.toNat : Int)) by unfold Ly.bc; rw [List.map_set]]
  exact h1
theorem own_cell {w : World} {B g n cap : Nat} {l : Row} (h : BOwn B (.slice (some ⟨g, 0, none⟩) n cap) l w) {q : Nat} {y : UInt8} (hq : l[q]? = some y) : w.cell? ⟨g, q, none⟩ = some (.int .u8 (y.toNat : Int)) ∧ w.frozen? ⟨g, q, none⟩ = false := by
  have hn : n = l.length := by
    rcases h.2 with ⟨h1, _⟩ | ⟨g', c', cur, h1, _⟩
    · cases h1
    · injection h1
  subst hn
  have hlt := (List.getElem?_eq_some_iff.1 hq).1
  refine ⟨?_, World.ownsRow.frozenAt h q⟩
  rw [World.ownsRow.cellAt h q (by omega)]
  unfold Ly.bc
  rw [List.getElem?_map, hq]
  rfl
theorem nat32 {z : Int} (h : (Lit.int .u32 z).wf = true) : ∃ n : Nat, z = (n : Int) ∧ n < 4294967296 := by
  simp [Lit.wf, IntKind.min, IntKind.max, IntKind.signed, IntKind.bits] at h
  exact ⟨z.toNat, by omega, by omega⟩
theorem u32_pos {t : Nat} (h : t < 4294967296) (hn : ¬ t = 0) : ((t : Int) == 0) = false := beq_eq_false_iff_ne.2 (by omega)
/-- nothing is appended -/
theorem append_zero {w0 : World} {ops : Array Oper} {rest : List Oper} {o : Oper} {a : Act} {Q : Exit → Act → World → Prop} (hgd : o.guard = none) (s xo : Operand)
    (ho : o.op = .call { callee := .builtin .append, args := #[s, xo], argTypes := #[22, 22] }) (base : Nat) (v : Value) (l : Row) (A : Option Addr) (c : Nat) (hs : a.eval s = v) (hx : a.eval xo = .slice A 0 c)
    (hown : BOwn base v l w0) (h : wpList Try.prog ops Q rest (a.put o.dst v) w0) : wpList Try.prog ops Q (o :: rest) a w0 := by
  refine wpList_plain hgd fun K hK => ?_
  obtain ⟨i0, hi, hz0, hz1, hz2⟩ := Ly.info_parts Ly.infoU8
  have hrun : (Builtin.append_ #[22, 22] o.type #[v, .slice A 0 c]).run Try.prog w0 = .ok v w0 := by
    rcases hown.2 with ⟨rfl, h0⟩ | ⟨g, cap, cur, rfl, _, _, hnc, _⟩
    · cases A <;> simp [Builtin.append_, run_underlying Try.underlying22, sizeOf, typeInfo, hi, Builtin.lenOf, Builtin.firstCells, loadCells, loadCellsFrom, Result.andThen]
    · cases A <;> simp [Builtin.append_, run_underlying Try.underlying22, sizeOf, typeInfo, hi, Builtin.lenOf, Builtin.firstCells, hnc, storeCells, loadCells, loadCellsFrom, Result.andThen]
  unfold Oper.wp
  simp [execOp, ho, resolve, invoke, builtin, hs, hx, hrun, Result.andThen]
  exact hK _ _ h
theorem xor_bit (y : UInt8) (m : Nat) : bits .xor .u8 (y.toNat : Int) ((2 : Int) ^ (m % 8) % 256) = ((y ^^^ UInt8.ofNat (2 ^ (m % 8))).toNat : Int) := by
  have h : 2 ^ (m % 8) < 256 := Nat.lt_of_lt_of_le (Nat.pow_lt_pow_right (by decide) (Nat.mod_lt _ (by decide))) (Nat.le_refl (2 ^ 8))
  have e : (2 : Int) ^ (m % 8) % 256 = ((2 ^ (m % 8) : Nat) : Int) := by
    have : (2 : Int) ^ (m % 8) = ((2 ^ (m % 8) : Nat) : Int) := by simp
    rw [this]
    generalize 2 ^ (m % 8) = p at h
    omega
  rw [e, u8_xor_nat _ _ y.toNat_lt h, UInt8.toNat_xor, UInt8.toNat_ofNat', Nat.mod_eq_of_lt h]
set_option maxHeartbeats 16000000 in
set_option maxRecDepth 100000 in
theorem bursts_walk (w : World) (v : Value) (l : Row) (z : Int) (t : Nat) (ht : t < 4294967296) (hb : BtsAt w v l) :
    Calls Try.prog 6 #[v, .int .i64 z, .int .u32 (t : Int)] w fun e w' => e = .returned (.bool true) ∧ Below w.heap.size w w' := by
  have cF := first_any w
  obtain ⟨A, db, off, c, rfl, k1, k2, k3, k4⟩ := Ly.bts_one hb
  have hlen : l.length ≤ 9223372036854775807 := by unfold maxLen at k2; omega
  have hb' := Lib.hid hb
  clear hb k3 k4
  obtain ⟨N, hN1, hN2, hmin⟩ := min_nat l.length 3000
  have hmin' : min (l.length : Int) 3000 = (N : Int) := hmin
  clear hmin
  go_enter Try.func6, Try.ntmps6
  go_wp2_with fail
  go_at_call 22
  refine cF.mono ?_
  rintro e w1 ⟨rfl, hb1⟩
  have hx : BtsAt w1 (.slice A N c) (l.take N) := (bts_take hb'.out hN1).kept hb1
  obtain ⟨x, hxe⟩ : ∃ x, l.take N = x := ⟨_, rfl⟩
  have hxl : x.length = N := by rw [← hxe, List.length_take]; omega
  rw [hxe] at hx
  have hxl' := Lib.hid hxl
  have hb1' := Lib.hid hb1
  have hx2' := Lib.hid (hx.kept (Ly.below_one w1 (.cells #[] 5)))
  have hE := Lib.hid (own_empty w1)
  have hsz2 : w1.heap.size ≤ (w1.alloc (.cells #[] 5)).heap.size := by rw [size_alloc]; omega
  clear cF hx hb1 hxe
  by_cases hN0 : N = 0
  · subst hN0
    have hF := Lib.hid (hb1'.out.alloc hb1'.out.size (.cells #[] 5))
    clear hxl hx2' hsz2
    go_wp2_with (first
      | (at_builtin; refine append_zero rfl _ _ rfl w1.heap.size _ [] _ _ rfl rfl hE.out ?_)
      | fail)
    go_wp2
    go_ret
    exact ⟨rfl, hF.out⟩
  have hxp : 0 < x.length := by omega
  have hlr : ([] : Row).length + x.length ≤ 140737488355328 := by simp; omega
  go_upto_region 4 with (first
    | (at_builtin; refine append_btsL rfl _ _ rfl w1.heap.size _ [] _ x rfl rfl hx2'.out hxp hE.out hlr hsz2 N (by rw [hxl'.out]; simp) x rfl ?_; intro g3 cap3 w3 hw3; have hW3 := Lib.hid hw3)
    | fail)
  have hb3 : Below w1.heap.size w1 w3 := hW3.out.below hE.out (Ly.below_one w1 _) hsz2
  have hb3' := Lib.hid (hb1'.out.trans (hb3.mono hb1'.out.size))
  have hO3 := Lib.hid hW3.out.own
  clear hw3 hb3 hx2' hE hsz2 hlr hxl
  by_cases hN4 : N < 4
  · have g1 : decide ((N : Int) < 4) = true := decide_eq_true (by omega)
    clear hxp
    go_wp2
    go_ret
    exact ⟨rfl, hb3'.out⟩
  have g1 : decide ((N : Int) < 4) = false := decide_eq_false (by omega)
  by_cases ht0 : t = 0
  · subst ht0
    have g2 : (((0 : Nat) : Int) == 0) = true := rfl
    clear hxp
    go_wp2
    go_ret
    exact ⟨rfl, hb3'.out⟩
  have g2 := u32_pos ht ht0
  have hE6 := Lib.hid (own_empty w3)
  have hO3a := Lib.hid (hO3.out.kept (Ly.below_one w3 (.cells #[] 5)))
  have hsz6 : w3.heap.size ≤ (w3.alloc (.cells #[] 5)).heap.size := by rw [size_alloc]; omega
  have hlr : ([] : Row).length + x.length ≤ 140737488355328 := by rw [hxl'.out]; simp; omega
  go_upto_region 7 with (first
    | (at_builtin; refine append_rowL rfl _ _ rfl w3.heap.size _ [] w1.heap.size _ x rfl rfl hO3a.out hxp hE6.out hlr hsz6 N (by rw [hxl'.out]; simp) x rfl ?_; intro g6 cap6 w6 hw6; have hW6 := Lib.hid hw6)
    | fail)
  have hb6 : Below w3.heap.size w3 w6 := hW6.out.below hE6.out (Ly.below_one w3 _) hsz6
  have hb6' := Lib.hid (hb3'.out.trans (hb6.mono hb3'.out.size))
  have hO6 := Lib.hid hW6.out.own
  have hX6 := Lib.hid (hO3.out.kept hb6)
  have hg36 : g3 < w3.heap.size ∧ w3.heap.size ≤ g6 := ⟨(World.ownsRow.lt hO3.out g3 rfl).2, (World.ownsRow.lt hO6.out g6 rfl).1⟩
  have hgw : w.heap.size ≤ w3.heap.size := hb3'.out.size
  obtain ⟨K, hK, hKe⟩ := Ly.rem_of z (8 * N - 31) (by omega) (by omega)
  have hm1 : 8 * (N : Int) - 31 = ((8 * N - 31 : Nat) : Int) := by omega
  clear hw6 hE6 hO3a hsz6 hlr g1 g2
  go_wp2_with fail
  rw [hKe]
  have hE0 := Lib.hid (And.intro hO6.out (And.intro hX6.out (And.intro hb6'.out (Turned.start x t K))))
  clear hKe hm1 hW3 hW6 hO3 hO6 hX6 hb3' hb1' hb6
  go_loopw [10] (fun s10 wr => ∃ (i : Nat) (Y : Row), s10 = .int .i64 (i : Int) ∧ i ≤ 32 ∧ Hid (BOwn w3.heap.size (.slice (some ⟨g6, 0, none⟩) N cap6) Y wr ∧ BOwn w1.heap.size (.slice (some ⟨g3, 0, none⟩) N cap3) x wr ∧ Below w.heap.size w wr ∧ Turned x Y t K i)) (fun s10 wr => 32 - (RowKit.intOf s10).toNat)
  case atStart => exact ⟨0, x, rfl, by omega, hE0⟩
  case round =>
    obtain ⟨i, Y, rfl, hi, hI⟩ := hrel
    by_cases hli : i < 32
    · have e2 : bits .and .u32 ((t : Int) / 2 ^ i) 1 = ((t / 2 ^ i % 2 : Nat) : Int) := by
        have := u32_and_nat (t / 2 ^ i) 1 (Nat.lt_of_le_of_lt (Nat.div_le_self _ _) ht) (by decide)
        rw [Nat.and_one_is_mod] at this
        rw [← this]
        simp
      by_cases hbit : t / 2 ^ i % 2 = 1
      · rw [hbit] at e2
        have hKi : (K : Int) + (i : Int) = ((K + i : Nat) : Int) := by omega
        obtain ⟨m, hm⟩ : ∃ m, K + i = m := ⟨_, rfl⟩
        rw [hm] at hKi
        have hmN : m < 8 * N := by omega
        obtain ⟨y, hy⟩ : ∃ y, Y[m / 8]? = some y := ⟨_, List.getElem?_eq_getElem (by rw [hI.out.2.2.2.1, hxl'.out]; omega)⟩
        obtain ⟨d0, f0⟩ := own_cell hI.out.1 hy
        have hset := own_set hI.out.1 (m / 8) (y ^^^ UInt8.ofNat (2 ^ (m % 8)))
        have hT := hI.out.2.2.2.one hbit hy (d := UInt8.ofNat (2 ^ (m % 8))) (by rw [hm]; exact bit_at m)
        have hX2 := Lib.hid (hI.out.2.1.heap fun g hg => hset.2.block g (World.ownsRow.lt hI.out.2.1 g hg).2 (by
          have : g = g3 := by simpa [Value.ownBlock] using hg.symm
          subst this; simp; omega))
        have hB2 := Lib.hid (hI.out.2.2.1.setCell (p := ⟨g6, m / 8, none⟩) (by show w.heap.size ≤ g6; have := hb6'.out; have := hgw; omega) (.int .u8 ((y ^^^ UInt8.ofNat (2 ^ (m % 8))).toNat : Int)))
        obtain ⟨q, hq⟩ : ∃ q, y ^^^ UInt8.ofNat (2 ^ (m % 8)) = q := ⟨_, rfl⟩
        rw [hq] at hset hT hB2 hX2
        have e3 := xor_bit y m
        rw [hq] at e3
        have hS := Lib.hid (And.intro hset.1 (And.intro hX2.out (And.intro hB2.out hT)))
        clear hI hbit hy hset hT hX2 hB2 hm
        go_wp2
        exact ⟨⟨i + 1, _, by go_num, by omega, hS⟩, by simp [RowKit.intOf]; omega⟩
      · have hb0 : t / 2 ^ i % 2 = 0 := by omega
        rw [hb0] at e2
        have hS := Lib.hid (And.intro hI.out.1 (And.intro hI.out.2.1 (And.intro hI.out.2.2.1 (hI.out.2.2.2.none hb0))))
        clear hI hbit hb0
        go_wp2
        exact ⟨⟨i + 1, Y, by go_num, by omega, hS⟩, by simp [RowKit.intOf]; omega⟩
    · obtain rfl : i = 32 := by omega
      have hne := hI.out.2.2.2.unlike ht ht0 (by rw [hxl'.out]; omega)
      have hYo := Lib.hid hI.out.1
      have c1 := sum_one wr _ _ (bts_own hI.out.2.1)
      have hB0 := Lib.hid hI.out.2.2.1
      obtain ⟨s1, hs1⟩ : ∃ s, sum x = s := ⟨_, rfl⟩
      obtain ⟨s2, hs2⟩ : ∃ s, sum Y = s := ⟨_, rfl⟩
      rw [hs1] at c1 hne
      rw [hs2] at hne
      have hs2' := Lib.hid hs2
      have hd : ((s1 : Int) != (s2 : Int)) = true := by simp; omega
      have hd2 : ((s1 : Int) == (s2 : Int)) = false := by simp; omega
      have hd3 : ¬ (s1 : Int) = (s2 : Int) := by omega
      clear hI hs1 hs2 hne
      go_wp2_with fail
      go_at_call 24
      refine c1.mono ?_
      rintro e wa ⟨rfl, hba⟩
      have hBa := Lib.hid (hB0.out.trans (hba.mono hB0.out.size))
      have c2 := sum_one wa _ _ (bts_own (hYo.out.kept hba))
      rw [hs2'.out] at c2
      clear c1 hba
      go_wp2_with fail
      go_at_call 24
      refine c2.mono ?_
      rintro e wb ⟨rfl, hbb⟩
      have hBb := Lib.hid (hBa.out.trans (hbb.mono hBa.out.size))
      clear c2 hbb
      go_wp2
      go_ret
      exact ⟨rfl, hBb.out⟩
end Go.Proofs.Ytpngbfmbjldieaa.Cr
