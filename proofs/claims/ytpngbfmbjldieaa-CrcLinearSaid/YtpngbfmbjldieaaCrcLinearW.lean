/-
  CrcLinear: sums are added as bytes are.
-/
import Derived.Test.YtpngbfmbjldieaaCrcOps
import Derived.Test.YtpngbfmbjldieaaCrcSmall
import Derived.BigRegion
import Derived.Deep.CutRange
set_option linter.unusedVariables false
namespace Go.Proofs.Ytpngbfmbjldieaa.Cr
open Go.Lib Go.RowKit
open Bo (Row Kp)
open Ly (BtsAt BOwn)

/-- a byte of a row of the call's own is stored -/
theorem own_setL {w : World} {B g n cap : Nat} {l : Row} (h : BOwn B (.slice (some ⟨g, 0, none⟩) n cap) l w) (q : Nat) (y : UInt8) : BOwn B (.slice (some ⟨g, 0, none⟩) n cap) (l.set q y) (w.setCell ⟨g, q, none⟩ (.int .u8 (y.toNat : Int))) ∧ Kp [g] w (w.setCell ⟨g, q, none⟩ (.int .u8 (y.toNat : Int))) := by
  have hn : n = l.length := by
    rcases h.2 with ⟨h1, _⟩ | ⟨g', c', cur, h1, _⟩
    · cases h1
    · injection h1
  subst hn
  have h1 := (World.ownsRow.stored h q (.int .u8 (y.toNat : Int))).1
  refine ⟨?_, (Kp.refl _ _).setCell (.inl (by simp)) _⟩
  unfold BOwn
  rw [List.length_set, show Ly.bc (l.set q y) = (Ly.bc l).set q (.int .u8 (y.toNat : Int)) by unfold Ly.bc; rw [List.map_set]]
  exact h1
theorem own_cellL {w : World} {B g n cap : Nat} {l : Row} (h : BOwn B (.slice (some ⟨g, 0, none⟩) n cap) l w) {q : Nat} {y : UInt8} (hq : l[q]? = some y) : w.cell? ⟨g, q, none⟩ = some (.int .u8 (y.toNat : Int)) ∧ w.frozen? ⟨g, q, none⟩ = false := by
  have hn : n = l.length := by
    rcases h.2 with ⟨h1, _⟩ | ⟨g', c', cur, h1, _⟩
    · cases h1
    · injection h1
  subst hn
  have hlt := (List.getElem?_eq_some_iff.1 hq).1
  refine ⟨?_, World.ownsRow.frozenAt h q⟩
  rw [World.ownsRow.cellAt h q (by omega)]
  unfold Ly.bc
  rw [List.getElem?_map, hq]
  rfl
/-- bytes of the call's own that are filled from the front -/
def part (T : Row) (n k : Nat) : Row := T.take k ++ List.replicate (n - k) 0
theorem part_set {T : Row} {n k : Nat} {x : UInt8} (hT : T.length = n) (hx : T[k]? = some x) : (part T n k).set k x = part T n (k + 1) := by
  have hk := (List.getElem?_eq_some_iff.1 hx).1
  unfold part
  rw [List.set_append_right _ _ (by rw [List.length_take]; omega), List.length_take, Nat.min_eq_left (by omega), Nat.sub_self, show n - k = (n - (k + 1)) + 1 by omega, List.replicate_succ, List.set_cons_zero, List.take_succ_eq_append_getElem hk, (List.getElem?_eq_some_iff.1 hx).2, List.append_assoc]
  rfl
theorem part_at {T : Row} {n k : Nat} (hT : T.length = n) (hk : k < n) : (part T n k)[k]? = some 0 := by
  unfold part
  rw [List.getElem?_append_right (by rw [List.length_take]; omega), List.length_take, Nat.min_eq_left (by omega), Nat.sub_self, List.getElem?_replicate, if_pos (by omega)]
theorem part_all {T : Row} {n : Nat} (hT : T.length = n) : part T n n = T := by
  unfold part
  rw [Nat.sub_self, List.take_of_length_le (by omega)]
  simp
theorem add_at {a b : Row} {k : Nat} {x y : UInt8} (h1 : a[k]? = some x) (h2 : b[k]? = some y) : (addB a b)[k]? = some (x ^^^ y) := by
  unfold addB
  rw [List.getElem?_zipWith, h1, h2]
theorem ite_min (x y : Int) : (if y < x then y else x) = min x y := by rw [Int.min_def]; split <;> split <;> omega
theorem run_min4 (P : Program) (w : World) (ts : Array TypeId) (t : TypeId) (x y z u : Int) : (Builtin.min_ ts t #[.int .i64 x, .int .i64 y, .int .i64 z, .int .i64 u]).run P w = .ok (.int .i64 (min (min (min x y) z) u)) w := by
  simp [Builtin.min_, Builtin.min2, ite_min]
theorem min4 (a b c d : Nat) : ∃ n : Nat, n ≤ a ∧ n ≤ b ∧ n ≤ c ∧ n ≤ d ∧ min (min (min (a : Int) (b : Int)) (c : Int)) (d : Int) = (n : Int) := ⟨min (min (min a b) c) d, by omega, by omega, by omega, by omega, by omega⟩
/-- what the last region's operations yield -/
def FL (D : Value) (T x1 x2 x3 : Row) (A1 A2 A3 : Option Addr) (m1 m2 m3 c1 c2 c3 n : Nat) : Nat → Value → World → Prop
  | 0, v, _ => v = D
  | 1, v, W => PtsAt W v [D] [T]
  | 2, v, _ => v = .int .u32 ((sum T : Nat) : Int)
  | 3, v, _ => v = .slice A1 m1 c1
  | 4, v, _ => v = .int .i64 (n : Int)
  | 5, v, _ => v = .slice A1 n c1
  | 6, v, W => PtsAt W v [.slice A1 n c1] [x1]
  | 7, v, _ => v = .int .u32 ((sum x1 : Nat) : Int)
  | 8, v, _ => v = .slice A2 m2 c2
  | 9, v, _ => v = .int .i64 (n : Int)
  | 10, v, _ => v = .slice A2 n c2
  | 11, v, W => PtsAt W v [.slice A2 n c2] [x2]
  | 12, v, _ => v = .int .u32 ((sum x2 : Nat) : Int)
  | 13, v, _ => v = .int .u32 ((sum x1 ^^^ sum x2 : Nat) : Int)
  | 14, v, _ => v = .slice A3 m3 c3
  | 15, v, _ => v = .int .i64 (n : Int)
  | 16, v, _ => v = .slice A3 n c3
  | 17, v, W => PtsAt W v [.slice A3 n c3] [x3]
  | 18, v, _ => v = .int .u32 ((sum x3 : Nat) : Int)
  | 19, v, _ => v = .int .u32 ((sum x1 ^^^ sum x2 ^^^ sum x3 : Nat) : Int)
  | 20, v, _ => v = .bool true
  | 21, v, _ => v = .bool true
  | _, _, _ => True
theorem FL_mono (D : Value) (T x1 x2 x3 : Row) (A1 A2 A3 : Option Addr) (m1 m2 m3 c1 c2 c3 n : Nat) : ∀ i v W W', FL D T x1 x2 x3 A1 A2 A3 m1 m2 m3 c1 c2 c3 n i v W → Below W.heap.size W W' → FL D T x1 x2 x3 A1 A2 A3 m1 m2 m3 c1 c2 c3 n i v W' := fun i v W W' h hb => by
  match i, h with
  | 0, h => exact h
  | 1, h => exact PtsAt.kept h hb
  | 2, h => exact h
  | 3, h => exact h
  | 4, h => exact h
  | 5, h => exact h
  | 6, h => exact PtsAt.kept h hb
  | 7, h => exact h
  | 8, h => exact h
  | 9, h => exact h
  | 10, h => exact h
  | 11, h => exact PtsAt.kept h hb
  | 12, h => exact h
  | 13, h => exact h
  | 14, h => exact h
  | 15, h => exact h
  | 16, h => exact h
  | 17, h => exact PtsAt.kept h hb
  | 18, h => exact h
  | 19, h => exact h
  | 20, h => exact h
  | 21, h => exact h
  | _ + 22, h => exact trivial
set_option maxHeartbeats 16000000 in
set_option maxRecDepth 100000 in
theorem linear_walk (w : World) (va vb vc : Value) (la lb lc : Row) (ha : BtsAt w va la) (hb : BtsAt w vb lb) (hc : BtsAt w vc lc) :
    Calls Try.prog 7 #[va, vb, vc] w fun e w' => e = .returned (.bool true) ∧ Below w.heap.size w w' := by
  have cF := first_any w
  obtain ⟨A1, b1, off1, c1, rfl, p1, p2, p3, p4⟩ := Ly.bts_one ha
  obtain ⟨A2, b2, off2, c2, rfl, q1, q2, q3, q4⟩ := Ly.bts_one hb
  obtain ⟨A3, b3, off3, c3, rfl, r1, r2, r3, r4⟩ := Ly.bts_one hc
  have hl1 : la.length ≤ 9223372036854775807 := by unfold maxLen at p2; omega
  have hl2 : lb.length ≤ 9223372036854775807 := by unfold maxLen at q2; omega
  have hl3 : lc.length ≤ 9223372036854775807 := by unfold maxLen at r2; omega
  obtain ⟨n, hn1, hn2, hn3, hn4, hmin⟩ := min4 la.length lb.length lc.length 2000
  have hmin' : min (min (min (la.length : Int) (lb.length : Int)) (lc.length : Int)) 2000 = (n : Int) := hmin
  have hI := Lib.hid (And.intro ha (And.intro hb hc))
  have hp3 := Lib.hid p3
  have hp4 := Lib.hid p4
  have hq3 := Lib.hid q3
  have hq4 := Lib.hid q4
  have hr3 := Lib.hid r3
  have hr4 := Lib.hid r4
  clear ha hb hc p3 p4 q3 q4 r3 r4 hmin
  go_enter Try.func7, Try.ntmps7
  go_wp2_with fail
  go_at_call 22
  refine cF.mono ?_
  rintro e w1 ⟨rfl, hb1⟩
  clear cF
  obtain ⟨w2, hmk, hO2, hb2⟩ := made w1 n (by omega)
  have hbw2 := Lib.hid (hb1.trans (hb2.mono hb1.size))
  have hO2' := Lib.hid hO2
  have hg : w.heap.size ≤ w1.heap.size := hb1.size
  have kmin : ∀ W, (Builtin.min_ #[3, 3, 3, 3] 3 #[.int .i64 (la.length : Int), .int .i64 (lb.length : Int), .int .i64 (lc.length : Int), .int .i64 2000]).run Try.prog W = .ok (.int .i64 (n : Int)) W := fun W => by rw [run_min4, hmin']
  obtain ⟨T, hT⟩ : ∃ T, addB (addB (la.take n) (lb.take n)) (lc.take n) = T := ⟨_, rfl⟩
  have ea : (la.take n).length = n := by rw [List.length_take]; omega
  have eb : (lb.take n).length = n := by rw [List.length_take]; omega
  have ec : (lc.take n).length = n := by rw [List.length_take]; omega
  have hTl : T.length = n := by rw [← hT, add_len (by rw [add_len (by omega)]; omega), add_len (by omega)]; omega
  have hlin := sum_linear (a := la.take n) (b := lb.take n) (c := lc.take n) (by omega) (by omega)
  rw [hT] at hlin
  have hT' := Lib.hid hT
  have hlin' := Lib.hid hlin
  have hTl' := Lib.hid hTl
  have hz0 : part T n 0 = List.replicate n 0 := by unfold part; simp
  have hSt := Lib.hid (show BOwn w1.heap.size (.slice (some ⟨w1.heap.size, 0, none⟩) n n) (part T n 0) w2 by rw [hz0]; exact hO2)
  clear hb1 hb2 hO2 hT hlin hTl ea eb ec hz0 hmin'
  go_wp2_with fail
  go_loopw [23] (fun s23 wr => ∃ k : Nat, s23 = .int .i64 (k : Int) ∧ k ≤ n ∧ Hid (BOwn w1.heap.size (.slice (some ⟨w1.heap.size, 0, none⟩) n n) (part T n k) wr ∧ Below w.heap.size w wr)) (fun s23 wr => n - (RowKit.intOf s23).toNat)
  case atStart => exact ⟨0, rfl, by omega, Lib.hid ⟨hSt.out, hbw2.out⟩⟩
  case round =>
    obtain ⟨k, rfl, hk, hJ⟩ := hrel
    by_cases hlt : k < n
    · obtain ⟨x, hx⟩ : ∃ x, la[k]? = some x := ⟨_, List.getElem?_eq_getElem (by omega)⟩
      obtain ⟨y, hy⟩ : ∃ x, lb[k]? = some x := ⟨_, List.getElem?_eq_getElem (by omega)⟩
      obtain ⟨z, hz⟩ : ∃ x, lc[k]? = some x := ⟨_, List.getElem?_eq_getElem (by omega)⟩
      obtain ⟨rfl, hd1⟩ := hp3.out (by omega)
      obtain ⟨rfl, hd2⟩ := hq3.out (by omega)
      obtain ⟨rfl, hd3⟩ := hr3.out (by omega)
      have ca : wr.cell? ⟨b1, off1 + k, none⟩ = some (.int .u8 (x.toNat : Int)) := (hJ.out.2.cell (p := ⟨b1, off1 + k, none⟩) hd1).trans (hp4.out k x hx)
      have cb : wr.cell? ⟨b2, off2 + k, none⟩ = some (.int .u8 (y.toNat : Int)) := (hJ.out.2.cell (p := ⟨b2, off2 + k, none⟩) hd2).trans (hq4.out k y hy)
      have cc : wr.cell? ⟨b3, off3 + k, none⟩ = some (.int .u8 (z.toNat : Int)) := (hJ.out.2.cell (p := ⟨b3, off3 + k, none⟩) hd3).trans (hr4.out k z hz)
      have tk : ∀ (l : Row) (u : UInt8), l[k]? = some u → (l.take n)[k]? = some u := fun l u h => by rw [List.getElem?_take, if_pos hlt]; exact h
      have hTk : T[k]? = some (x ^^^ y ^^^ z) := by rw [← hT'.out]; exact add_at (add_at (tk _ _ hx) (tk _ _ hy)) (tk _ _ hz)
      obtain ⟨d0, f0⟩ := own_cellL hJ.out.1 (part_at hTl'.out hlt)
      have hset := (own_setL hJ.out.1 k (x ^^^ y ^^^ z)).1
      rw [part_set hTl'.out hTk] at hset
      have e1 : bits .xor .u8 (x.toNat : Int) (y.toNat : Int) = ((x ^^^ y).toNat : Int) := by rw [u8_xor_nat _ _ x.toNat_lt y.toNat_lt, UInt8.toNat_xor]
      have e2 : bits .xor .u8 ((x ^^^ y).toNat : Int) (z.toNat : Int) = ((x ^^^ y ^^^ z).toNat : Int) := by rw [u8_xor_nat _ _ (x ^^^ y).toNat_lt z.toNat_lt, UInt8.toNat_xor (x ^^^ y)]
      have hB2 := hJ.out.2.setCell (p := ⟨w1.heap.size, k, none⟩) (by show w.heap.size ≤ w1.heap.size; omega) (.int .u8 ((x ^^^ y ^^^ z).toNat : Int))
      obtain ⟨q, hq⟩ : ∃ q, x ^^^ y ^^^ z = q := ⟨_, rfl⟩
      obtain ⟨q0, hq0⟩ : ∃ q, x ^^^ y = q := ⟨_, rfl⟩
      rw [hq] at hset e2 hB2
      rw [hq0] at e1 e2
      have hS := Lib.hid (And.intro hset hB2)
      clear hset hB2 hJ hTk tk hx hy hz hq hq0
      go_upto_region 8 with fail
      go_region
      go_wp2
      exact ⟨⟨k + 1, by go_num, by omega, Lib.hid ⟨hS.out.1.heap fun _ _ => rfl, hS.out.2.drew⟩⟩, by simp [RowKit.intOf]; omega⟩
    · obtain rfl : k = n := by omega
      have hD := Lib.hid hJ.out.1
      rw [part_all hTl'.out] at hD
      have hB := Lib.hid hJ.out.2
      have hX1 := Lib.hid ((bts_take hI.out.1 hn1).kept hB.out)
      have hX2 := Lib.hid ((bts_take hI.out.2.1 hn2).kept hB.out)
      have hX3 := Lib.hid ((bts_take hI.out.2.2 hn3).kept hB.out)
      clear hJ
      go_upto_region 10 with fail
      go_cut [6] from 44 to 64 (fun sv wx => sv = .bool true ∧ Hid (Below w.heap.size w wx))
      case first =>
        rename_i J K' hJ2 hK'
        refine Rg.region_mono (by kernel_rfl) [44, 45, 46, 47, 48, 49, 50, 51, 52, 53, 54, 55, 56, 57, 58, 59, 60, 61, 62, 63, 64, 6] (by decide) (by kernel_rfl) rfl (by kernel_rfl) rfl (FL (.slice (some ⟨w1.heap.size, 0, none⟩) k k) T (la.take k) (lb.take k) (lc.take k) A1 A2 A3 la.length lb.length lc.length c1 c2 c3 k) (FL_mono (.slice (some ⟨w1.heap.size, 0, none⟩) k k) T (la.take k) (lb.take k) (lc.take k) A1 A2 A3 la.length lb.length lc.length c1 c2 c3 k) ?_ ?_
        · exact ⟨mvOld rfl rfl rfl rfl (by decide) (.slice (some ⟨w1.heap.size, 0, none⟩) k k) rfl (fun _ _ => rfl),
            partOp rfl rfl rfl rfl (k := 0) (by decide) rfl (.slice (some ⟨w1.heap.size, 0, none⟩) k k) rfl T (fun _ _ h => h) (fun W hW => (bts_own hD.out).kept hW) (fun _ _ h => h),
            sumOp rfl rfl rfl rfl (k := 1) (by decide) rfl _ _ (fun _ _ h => h) (fun _ => rfl),
            mvOld rfl rfl rfl rfl (by decide) (.slice A1 la.length c1) rfl (fun _ _ => rfl),
            mvOld rfl rfl rfl rfl (by decide) (.int .i64 (k : Int)) rfl (fun _ _ => rfl),
            cutOp rfl rfl rfl rfl (k := 3) (k' := 4) (by decide) rfl (by decide) rfl A1 la.length k c1 (by omega) (fun _ _ h => h) (fun _ _ h => h) (fun _ _ => rfl),
            partOp rfl rfl rfl rfl (k := 5) (by decide) rfl (.slice A1 k c1) rfl (la.take k) (fun _ _ h => h) (fun W hW => hX1.out.kept hW) (fun _ _ h => h),
            sumOp rfl rfl rfl rfl (k := 6) (by decide) rfl _ _ (fun _ _ h => h) (fun _ => rfl),
            mvOld rfl rfl rfl rfl (by decide) (.slice A2 lb.length c2) rfl (fun _ _ => rfl),
            mvOld rfl rfl rfl rfl (by decide) (.int .i64 (k : Int)) rfl (fun _ _ => rfl),
            cutOp rfl rfl rfl rfl (k := 8) (k' := 9) (by decide) rfl (by decide) rfl A2 lb.length k c2 (by omega) (fun _ _ h => h) (fun _ _ h => h) (fun _ _ => rfl),
            partOp rfl rfl rfl rfl (k := 10) (by decide) rfl (.slice A2 k c2) rfl (lb.take k) (fun _ _ h => h) (fun W hW => hX2.out.kept hW) (fun _ _ h => h),
            sumOp rfl rfl rfl rfl (k := 11) (by decide) rfl _ _ (fun _ _ h => h) (fun _ => rfl),
            xorOp rfl rfl rfl rfl (k := 7) (k' := 12) (by decide) rfl (by decide) rfl _ _ (sum_lt _) (sum_lt _) (fun _ _ h => h) (fun _ _ h => h) (fun _ => rfl),
            mvOld rfl rfl rfl rfl (by decide) (.slice A3 lc.length c3) rfl (fun _ _ => rfl),
            mvOld rfl rfl rfl rfl (by decide) (.int .i64 (k : Int)) rfl (fun _ _ => rfl),
            cutOp rfl rfl rfl rfl (k := 14) (k' := 15) (by decide) rfl (by decide) rfl A3 lc.length k c3 (by omega) (fun _ _ h => h) (fun _ _ h => h) (fun _ _ => rfl),
            partOp rfl rfl rfl rfl (k := 16) (by decide) rfl (.slice A3 k c3) rfl (lc.take k) (fun _ _ h => h) (fun W hW => hX3.out.kept hW) (fun _ _ h => h),
            sumOp rfl rfl rfl rfl (k := 17) (by decide) rfl _ _ (fun _ _ h => h) (fun _ => rfl),
            xorOp rfl rfl rfl rfl (k := 13) (k' := 18) (by decide) rfl (by decide) rfl _ _ (xor_lt (sum_lt _) (sum_lt _)) (sum_lt _) (fun _ _ h => h) (fun _ _ h => h) (fun _ => rfl),
            sameOp rfl rfl rfl rfl (k := 2) (k' := 19) (by decide) rfl (by decide) rfl (sum T) (fun _ _ h => h) (fun _ _ h => by rw [hlin'.out]; exact h) (fun _ => rfl),
            asNew rfl rfl rfl rfl (k := 20) (by decide) rfl (fun _ _ h => h), trivial⟩
        · intro u W hW hu
          have r1 : u 6 = .bool true := hu 21 6 rfl
          clear hu
          show K' _ _
          refine hK' _ _ (Met.intro (hJ2 _ _ ?_))
          unfold Rg.puts
          simp only [List.foldl_cons, List.foldl_nil, Act.put, List.setIfInBounds_toArray, List.set_cons_succ, List.set_cons_zero]
          repeat apply Exists.intro
          refine ⟨?rel2, rfl⟩
          exact ⟨r1, Lib.hid (hB.out.trans (hW.mono hB.out.size))⟩
      case rest =>
        obtain ⟨rfl, hb2⟩ := hcut
        go_wp2
        go_ret
        exact ⟨rfl, hb2.out⟩
end Go.Proofs.Ytpngbfmbjldieaa.Cr
