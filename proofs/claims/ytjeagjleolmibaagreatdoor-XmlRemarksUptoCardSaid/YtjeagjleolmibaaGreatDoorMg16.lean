import Derived.Test.YtjeagjleolmibaaGreatDoorMg6
import Derived.Test.YtjeagjleolmibaaGreatDoorMg15
import Derived.Test.YtjeagjleolmibaaGreatDoorMg4
import Derived.SizedLaws
import Derived.Test.YtjeagjleolmibaaGreatDoorMg7

/-
  THE WALK OF THE REFERENCE's Print, at pieces that are right.
-/
set_option linter.unusedVariables false
namespace Go.Proofs.YtjeagjleolmibaaGreatDoor.Xm
open Go.Lib Go.RowKit

theorem cat_data {x y z : ByteArray} (h : x ++ y = z) : z.data.toList = x.data.toList ++ y.data.toList := by rw [← h, ByteArray.data_append, Array.toList_append]
theorem cat_size {x y z : ByteArray} (h : x ++ y = z) : z.size = x.size + y.size := by rw [← h, ByteArray.size_append]
theorem name_vals (p : Pc) (a1 : ByteArray) (sp : Int) (d1 : a1.data.toList = p.name) (hsp : p.space = sp) (hs : 0 ≤ sp ∧ sp ≤ 2) (hl : a1.size ≤ 64) :
    ∃ y : ByteArray, ((sp = 0 ∧ y = a1) ∨ (sp = 1 ∧ (⟨#[68, 58]⟩ : ByteArray) ++ a1 = y) ∨ (sp = 2 ∧ (⟨#[67, 58]⟩ : ByteArray) ++ a1 = y)) ∧ y.data.toList = nm p ∧ y.size ≤ 66 := by
  have h3 : sp = 0 ∨ sp = 1 ∨ sp = 2 := by omega
  rcases h3 with h | h | h
  · exact ⟨a1, .inl ⟨h, rfl⟩, by unfold nm; rw [hsp, h, if_neg (by decide), if_neg (by decide)]; exact d1, by omega⟩
  · refine ⟨_, .inr (.inl ⟨h, rfl⟩), ?_, ?_⟩
    · unfold nm; rw [hsp, h, if_pos rfl, cat_data rfl, d1]; rfl
    · rw [cat_size rfl, show (⟨#[68, 58]⟩ : ByteArray).size = 2 from rfl]; omega
  · refine ⟨_, .inr (.inr ⟨h, rfl⟩), ?_, ?_⟩
    · unfold nm; rw [hsp, h, if_neg (by decide), if_pos rfl, cat_data rfl, d1]; rfl
    · rw [cat_size rfl, show (⟨#[67, 58]⟩ : ByteArray).size = 2 from rfl]; omega
theorem cells_p {W : World} {P : Nat} {k1 k2 : Int} {a1 a2 : ByteArray} {z : Nat × Nat} (h : W.heap[P]? = some (.cells #[.int .i64 k1, .int .i64 k2, .string a1, .string a2] 37 z)) :
    W.cell? ⟨P, 0, none⟩ = some (.int .i64 k1) ∧ W.cell? ⟨P, 1, none⟩ = some (.int .i64 k2) ∧ W.cell? ⟨P, 2, none⟩ = some (.string a1) ∧ W.cell? ⟨P, 3, none⟩ = some (.string a2) :=
  ⟨(Lib.cell_of_heap h 0).trans rfl, (Lib.cell_of_heap h 1).trans rfl, (Lib.cell_of_heap h 2).trans rfl, (Lib.cell_of_heap h 3).trans rfl⟩
theorem tn {x m : UInt8} {k : Int} (hm : (m.toNat : Int) = k) (h : x ≠ m) : ((x.toNat : Int) == k) = false := by subst hm; exact beq_eq_false_iff_ne.2 (fun e => h (UInt8.toNat_inj.1 (by omega)))
theorem was1_at {ps : List Pc} {k : Nat} {q : Pc} (h0 : 0 < k) (h : ps[k - 1]? = some q) : was1 ps k = decide (q.kind = 1) := by
  unfold was1
  rw [h]
  simp [h0]
theorem next_at {ps : List Pc} {k : Nat} {q : Pc} (h : ps[k + 1]? = some q) : nextC (ps.drop (k + 1)) = decide (q.kind = 2) := by
  rw [drop_next h]; rfl

set_option maxHeartbeats 8000000 in
set_option maxRecDepth 100000 in
theorem refPrint_any (v : Value) (ps : List Pc) (w : World) (hv : PcsAt w v ps) (hr : right ps = true) (hsz : (prX ps).length ≤ 1099511627776) :
    Calls Tryz.prog 13 #[v] w fun e w' => e = .returned (.string ⟨(prX ps).toArray⟩) ∧ Below w.heap.size w w' := by
  obtain ⟨A, b, off, c, rfl, hc1, hc2, hA, hP⟩ := hv
  unfold maxLen at hc2
  obtain ⟨n, hn⟩ : ∃ n, ps.length = n := ⟨_, rfl⟩
  obtain ⟨Z, hZ⟩ : ∃ Z, w.heap.size = Z := ⟨_, rfl⟩
  obtain ⟨T, hT⟩ : ∃ T, (⟨(prX ps).toArray⟩ : ByteArray) = T := ⟨_, rfl⟩
  rw [hn] at hc1 hA ⊢
  rw [hT]
  have hn' := Lib.hid hn
  have hP' := Lib.hid hP
  have hA' := Lib.hid hA
  have hR' := Lib.hid hr
  have hsz' := Lib.hid hsz
  have hZ' := Lib.hid hZ
  have hT' := Lib.hid hT
  clear hn hP hA hr hsz hZ hT
  go_enter Tryz.func13, Tryz.ntmps13
  go_wp2
  go_loopw [3, 10] (fun s3 s10 wr => ∃ k : Nat, s10 = .int .i64 (k : Int) ∧ k ≤ n ∧ BOwn Z s3 (preX ps k) wr ∧ Below Z w wr) (fun s3 s10 wr => n - (RowKit.intOf s10).toNat)
  case atStart => exact ⟨0, rfl, Nat.zero_le _, BOwn.nil _ _, by rw [← hZ'.out]; exact Below.refl _ _⟩
  case round =>
    obtain ⟨k, rfl, hk, hown, hB⟩ := hrel
    have hZr : Z ≤ wr.heap.size := by have := hB.size; rw [hZ'.out] at this; exact this
    by_cases hlt : k < n
    · have hp : ps[k]? = some (ps[k]'(by have := hn'.out; omega)) := List.getElem?_eq_getElem _
      obtain ⟨p, hPe⟩ : ∃ p, ps[k]'(by have := hn'.out; omega) = p := ⟨_, rfl⟩
      rw [hPe] at hp
      clear hPe
      obtain ⟨rfl, hAb⟩ := hA'.out (by omega)
      obtain ⟨a1, a2, d1, d2, p0, p1, p2, p3⟩ := PcsAt.piece hP'.out hAb (by rw [hZ'.out]; exact hB) hp
      have hat := rgt_at ps _ _ _ hR'.out k p hp
      have hpre := preX_succ hp
      have hlen := preX_le ps (k + 1)
      rw [hpre, List.length_append] at hlen
      have hlen' : (preX ps k).length ≤ 1099511627776 := by have := hsz'.out; omega
      obtain ⟨sp, hsp⟩ : ∃ sp, p.space = sp := ⟨_, rfl⟩
      obtain ⟨kd, hkd⟩ : ∃ kd, p.kind = kd := ⟨_, rfl⟩
      rw [hkd] at p0
      rw [hsp] at p1
      have hpre' := Lib.hid hpre
      obtain ⟨wp, hwp⟩ : ∃ wp, wr.alloc (.cells #[.int .i64 kd, .int .i64 sp, .string a1, .string a2] 37) = wp := ⟨_, rfl⟩
      have hO : wp.heap[wr.heap.size]? = some (.cells #[.int .i64 kd, .int .i64 sp, .string a1, .string a2] 37 (0, 0)) := by rw [← hwp]; exact heap_alloc_new wr _
      have hbp : Below wr.heap.size wr wp := by rw [← hwp]; exact (Below.refl _ _).alloc (Nat.le_refl _) _
      have hBp : Below Z w wp := hB.trans (hbp.mono hZr)
      have hown2 := hown.kept hbp
      have hZp : Z ≤ wp.heap.size := by have := hbp.size; omega
      clear hown hB hpre
      rcases hat with ⟨K, ho, q, hq⟩ | ⟨K, ho, hk0⟩ | ⟨K, ho⟩
      · obtain ⟨_, hs, hnb⟩ := tag_eq K ho
        rw [hsp] at hs
        have ht0 := tag_text ho
        have z2 : a2.size = 0 := by rw [Lib.size_eq, d2, ht0]; rfl
        have hl1 : a1.size ≤ 64 := by rw [Lib.size_eq, d1]; exact nameB_len hnb
        have hch : chunk (decide (k = 0)) (was1 ps k) p (ps.drop (k + 1)) = 60 :: nm p ++ (if k = 0 then declS else []) ++ (if q.kind = 2 then [47, 62] else [62]) := by
          have e1 : (decide (k = 0) = true) = (k = 0) := by simp
          have e2 : (decide (q.kind = 2) = true) = (q.kind = 2) := by simp
          rw [chunk_o (by rw [K]; decide), chunk_open K ht0, next_at hq]
          simp only [e1, e2, List.cons_append]
        obtain ⟨y, hy, yd, ys⟩ := name_vals p a1 sp d1 hsp hs hl1
        obtain ⟨y2, hy2⟩ : ∃ y2, (⟨#[60]⟩ : ByteArray) ++ y = y2 := ⟨_, rfl⟩
        have y2d := cat_data hy2
        have y2s := cat_size hy2
        rw [yd] at y2d
        rw [show (⟨#[60]⟩ : ByteArray).size = 1 from rfl] at y2s
        have m1 : ¬ 9223372036854775807 < (⟨#[60]⟩ : ByteArray).size + y.size := by rw [show (⟨#[60]⟩ : ByteArray).size = 1 from rfl]; omega
        have m1' : ¬ 9223372036854775807 < 1 + y.size := by omega
        have m2 : ¬ 9223372036854775807 < (⟨#[68, 58]⟩ : ByteArray).size + a1.size := by rw [show (⟨#[68, 58]⟩ : ByteArray).size = 2 from rfl]; omega
        have m2' : ¬ 9223372036854775807 < 2 + a1.size := by omega
        have m3 : ¬ 9223372036854775807 < (⟨#[67, 58]⟩ : ByteArray).size + a1.size := by rw [show (⟨#[67, 58]⟩ : ByteArray).size = 2 from rfl]; omega
        have hkd1 : kd = 1 := by rw [← hkd]; exact K
        subst hkd1
        have y2d' := Lib.hid y2d
        have ydl := yd
        have hch' := Lib.hid hch
        have hq' := Lib.hid hq
        have hown2' := Lib.hid hown2
        have hO' := Lib.hid hO
        have hBp' := Lib.hid hBp
        clear d1 d2 hp hlen hsp hkd K ho hnb ht0 hch hq y2d yd hs hown2 hbp hBp
        have hownp' := hown2'
        have hOp' := hO'
        clear hown2' hO'
        have hqk : k + 1 < n := by have := (List.getElem?_eq_some_iff.1 hq'.out).1; have := hn'.out; omega
        have hqI : (k : Int) + 1 < (n : Int) := by omega
        have hqc : Hid (∀ W, Below Z w W → W.cell? ⟨b, off + (k + 1) * 4, none⟩ = some (.int .i64 q.kind)) := Lib.hid fun W hW => ((hP'.out (k + 1) q hq'.out).kept hAb (by rw [hZ'.out]; exact hW)).1
        have hslen : (preX ps k).length + 200 ≤ 140737488355328 := by omega
        have hnml : (nm p).length = y.size := by rw [← ydl, Lib.size_eq]
        rcases hy with ⟨rfl, rfl⟩ | ⟨rfl, hy⟩ | ⟨rfl, hy⟩
        all_goals
          obtain ⟨c0, c1, c2, c3⟩ := cells_p hOp'.out
          obtain ⟨L1, hL1⟩ : ∃ L, preX ps k ++ (60 :: nm p) = L := ⟨_, rfl⟩
          have l1 : preX ps k ++ y2.data.toList = L1 ∧ L1.length ≤ 140737488355328 := ⟨by rw [y2d'.out]; exact hL1, by rw [← hL1, List.length_append, List.length_cons, hnml]; omega⟩
          have L1s : L1.length ≤ 1099511628776 := by rw [← hL1, List.length_append, List.length_cons, hnml]; omega
          go_wp2_with (at_builtin; refine append_text2 y2 rfl _ _ rfl Z _ (preX ps k) L1 rfl rfl l1.1 hownp'.out l1.2 hZp ?_)
          intro v1 w1 hown1 hst1
          have hB1' := Lib.hid (hst1.1 _ hBp'.out)
          have hO1' := Lib.hid (hst1.2 _ _ _ hOp'.out)
          have hZ1 : Z ≤ w1.heap.size := by have := hB1'.out.size; rw [hZ'.out] at this; exact this
          have hown1' := Lib.hid hown1
          clear hown1 hst1 c0 c1 c2 c3
          obtain ⟨c0, c1, c2, c3⟩ := cells_p hO1'.out
          by_cases hk0 : k = 0
          · have z0 : ((k : Int) == 0) = true := beq_iff_eq.2 (by omega)
            have z0n : (k == 0) = true := beq_iff_eq.2 hk0
            have hk0' := Lib.hid hk0
            clear hk0
            obtain ⟨L2, hL2⟩ : ∃ L, L1 ++ declS = L := ⟨_, rfl⟩
            have l2 : L1 ++ declS = L2 ∧ L2.length ≤ 140737488355328 := ⟨hL2, by rw [← hL2, List.length_append, show declS.length = 56 from rfl]; omega⟩
            have L2s : L2.length ≤ 1099511628976 := by rw [← hL2, List.length_append, show declS.length = 56 from rfl]; omega
            go_wp2_with (at_builtin; refine append_text2 _ rfl _ _ rfl Z _ L1 L2 rfl rfl l2.1 hown1'.out l2.2 hZ1 ?_)
            intro v2 w2 hown2 hst2
            have hB2' := Lib.hid (hst2.1 _ hB1'.out)
            have hO2' := Lib.hid (hst2.2 _ _ _ hO1'.out)
            have hZ2 : Z ≤ w2.heap.size := by have := hB2'.out.size; rw [hZ'.out] at this; exact this
            have hown2' := Lib.hid hown2
            clear hown2 hst2 c0 c1 c2 c3
            obtain ⟨c0, c1, c2, c3⟩ := cells_p hO2'.out
            have hqc2 := hqc.out w2 hB2'.out
            by_cases hq2 : q.kind = 2
            · obtain ⟨L3, hL3⟩ : ∃ L, L2 ++ [47] = L := ⟨_, rfl⟩
              have l3 : L2 ++ [47] = L3 ∧ L3.length ≤ 140737488355328 := ⟨hL3, by rw [← hL3, List.length_append, List.length_singleton]; omega⟩
              obtain ⟨L4, hL4⟩ : ∃ L, L3 ++ [62] = L := ⟨_, rfl⟩
              have l4 : L3 ++ [62] = L4 ∧ L4.length ≤ 140737488355328 := ⟨hL4, by rw [← hL4, ← hL3, List.length_append, List.length_append, List.length_singleton, List.length_singleton]; omega⟩
              have hfin : Hid (L4 = preX ps (k + 1)) := Lib.hid (by
                rw [hpre'.out, hch'.out, ← hL4, ← hL3, ← hL2, ← hL1, if_pos hk0'.out, if_pos hq2]; simp)
              rw [hq2] at hqc2
              clear hq2
              go_wp2_with (at_builtin; refine append_byte2 47 47 rfl rfl _ _ rfl Z _ L2 L3 l3.1 _ ?i8 rfl rfl hown2'.out l3.2 hZ2 ?_)
              case i8 => simp
              intro v3 w3 hown3 hst3
              have hB3' := Lib.hid (hst3.1 _ hB2'.out)
              have hO3' := Lib.hid (hst3.2 _ _ _ hO2'.out)
              have hZ3 : Z ≤ w3.heap.size := by have := hB3'.out.size; rw [hZ'.out] at this; exact this
              have hown3' := Lib.hid hown3
              clear hown3 hst3 c0 c1 c2 c3
              obtain ⟨c0, c1, c2, c3⟩ := cells_p hO3'.out
              go_wp2_with (at_builtin; refine append_byte2 62 62 rfl rfl _ _ rfl Z _ L3 L4 l4.1 _ ?i8 rfl rfl hown3'.out l4.2 hZ3 ?_)
              case i8 => simp
              intro v4 w4 hown4 hst4
              have hB4' := Lib.hid (hst4.1 _ hB3'.out)
              have hO4' := Lib.hid (hst4.2 _ _ _ hO3'.out)
              have hZ4 : Z ≤ w4.heap.size := by have := hB4'.out.size; rw [hZ'.out] at this; exact this
              have hown4' := Lib.hid hown4
              clear hown4 hst4 c0 c1 c2 c3
              obtain ⟨c0, c1, c2, c3⟩ := cells_p hO4'.out
              go_wp2_with fail
              go_loopw [3, 7] (fun s3 s7 wx => s3 = v4 ∧ s7 = .int .i64 0 ∧ wx = w4) (fun s3 s7 wx => 0)
              case atStart => exact ⟨rfl, rfl, rfl⟩
              case round =>
                obtain ⟨rfl, rfl, rfl⟩ := hrel
                go_wp2
                go_roundw
                case rel => exact ⟨k + 1, by go_num, by omega, by rw [← hfin.out]; exact hown4'.out, hB4'.out⟩
                case measure => simp [RowKit.intOf]; omega
            · obtain ⟨L4, hL4⟩ : ∃ L, L2 ++ [62] = L := ⟨_, rfl⟩
              have l4 : L2 ++ [62] = L4 ∧ L4.length ≤ 140737488355328 := ⟨hL4, by rw [← hL4, List.length_append, List.length_singleton]; omega⟩
              have hfin : Hid (L4 = preX ps (k + 1)) := Lib.hid (by
                rw [hpre'.out, hch'.out, ← hL4, ← hL2, ← hL1, if_pos hk0'.out, if_neg hq2]; simp)
              have n2 : (q.kind == 2) = false := beq_eq_false_iff_ne.2 hq2
              clear hq2
              go_wp2_with (at_builtin; refine append_byte2 62 62 rfl rfl _ _ rfl Z _ L2 L4 l4.1 _ ?i8 rfl rfl hown2'.out l4.2 hZ2 ?_)
              case i8 => simp
              intro v4 w4 hown4 hst4
              have hB4' := Lib.hid (hst4.1 _ hB2'.out)
              have hO4' := Lib.hid (hst4.2 _ _ _ hO2'.out)
              have hZ4 : Z ≤ w4.heap.size := by have := hB4'.out.size; rw [hZ'.out] at this; exact this
              have hown4' := Lib.hid hown4
              clear hown4 hst4 c0 c1 c2 c3
              obtain ⟨c0, c1, c2, c3⟩ := cells_p hO4'.out
              go_wp2_with fail
              go_loopw [3, 7] (fun s3 s7 wx => s3 = v4 ∧ s7 = .int .i64 0 ∧ wx = w4) (fun s3 s7 wx => 0)
              case atStart => exact ⟨rfl, rfl, rfl⟩
              case round =>
                obtain ⟨rfl, rfl, rfl⟩ := hrel
                go_wp2
                go_roundw
                case rel => exact ⟨k + 1, by go_num, by omega, by rw [← hfin.out]; exact hown4'.out, hB4'.out⟩
                case measure => simp [RowKit.intOf]; omega
          · have z0 : ((k : Int) == 0) = false := beq_eq_false_iff_ne.2 (by omega)
            have z0n : (k == 0) = false := beq_eq_false_iff_ne.2 hk0
            have hk0' := Lib.hid hk0
            clear hk0
            have hqc2 := hqc.out w1 hB1'.out
            by_cases hq2 : q.kind = 2
            · obtain ⟨L3, hL3⟩ : ∃ L, L1 ++ [47] = L := ⟨_, rfl⟩
              have l3 : L1 ++ [47] = L3 ∧ L3.length ≤ 140737488355328 := ⟨hL3, by rw [← hL3, List.length_append, List.length_singleton]; omega⟩
              obtain ⟨L4, hL4⟩ : ∃ L, L3 ++ [62] = L := ⟨_, rfl⟩
              have l4 : L3 ++ [62] = L4 ∧ L4.length ≤ 140737488355328 := ⟨hL4, by rw [← hL4, ← hL3, List.length_append, List.length_append, List.length_singleton, List.length_singleton]; omega⟩
              have hfin : Hid (L4 = preX ps (k + 1)) := Lib.hid (by
                rw [hpre'.out, hch'.out, ← hL4, ← hL3, ← hL1, if_neg hk0'.out, if_pos hq2]; simp)
              rw [hq2] at hqc2
              clear hq2
              go_wp2_with (at_builtin; refine append_byte2 47 47 rfl rfl _ _ rfl Z _ L1 L3 l3.1 _ ?i8 rfl rfl hown1'.out l3.2 hZ1 ?_)
              case i8 => simp
              intro v3 w3 hown3 hst3
              have hB3' := Lib.hid (hst3.1 _ hB1'.out)
              have hO3' := Lib.hid (hst3.2 _ _ _ hO1'.out)
              have hZ3 : Z ≤ w3.heap.size := by have := hB3'.out.size; rw [hZ'.out] at this; exact this
              have hown3' := Lib.hid hown3
              clear hown3 hst3 c0 c1 c2 c3
              obtain ⟨c0, c1, c2, c3⟩ := cells_p hO3'.out
              go_wp2_with (at_builtin; refine append_byte2 62 62 rfl rfl _ _ rfl Z _ L3 L4 l4.1 _ ?i8 rfl rfl hown3'.out l4.2 hZ3 ?_)
              case i8 => simp
              intro v4 w4 hown4 hst4
              have hB4' := Lib.hid (hst4.1 _ hB3'.out)
              have hO4' := Lib.hid (hst4.2 _ _ _ hO3'.out)
              have hZ4 : Z ≤ w4.heap.size := by have := hB4'.out.size; rw [hZ'.out] at this; exact this
              have hown4' := Lib.hid hown4
              clear hown4 hst4 c0 c1 c2 c3
              obtain ⟨c0, c1, c2, c3⟩ := cells_p hO4'.out
              go_wp2_with fail
              go_loopw [3, 7] (fun s3 s7 wx => s3 = v4 ∧ s7 = .int .i64 0 ∧ wx = w4) (fun s3 s7 wx => 0)
              case atStart => exact ⟨rfl, rfl, rfl⟩
              case round =>
                obtain ⟨rfl, rfl, rfl⟩ := hrel
                go_wp2
                go_roundw
                case rel => exact ⟨k + 1, by go_num, by omega, by rw [← hfin.out]; exact hown4'.out, hB4'.out⟩
                case measure => simp [RowKit.intOf]; omega
            · obtain ⟨L4, hL4⟩ : ∃ L, L1 ++ [62] = L := ⟨_, rfl⟩
              have l4 : L1 ++ [62] = L4 ∧ L4.length ≤ 140737488355328 := ⟨hL4, by rw [← hL4, List.length_append, List.length_singleton]; omega⟩
              have hfin : Hid (L4 = preX ps (k + 1)) := Lib.hid (by
                rw [hpre'.out, hch'.out, ← hL4, ← hL1, if_neg hk0'.out, if_neg hq2]; simp)
              have n2 : (q.kind == 2) = false := beq_eq_false_iff_ne.2 hq2
              clear hq2
              go_wp2_with (at_builtin; refine append_byte2 62 62 rfl rfl _ _ rfl Z _ L1 L4 l4.1 _ ?i8 rfl rfl hown1'.out l4.2 hZ1 ?_)
              case i8 => simp
              intro v4 w4 hown4 hst4
              have hB4' := Lib.hid (hst4.1 _ hB1'.out)
              have hO4' := Lib.hid (hst4.2 _ _ _ hO1'.out)
              have hZ4 : Z ≤ w4.heap.size := by have := hB4'.out.size; rw [hZ'.out] at this; exact this
              have hown4' := Lib.hid hown4
              clear hown4 hst4 c0 c1 c2 c3
              obtain ⟨c0, c1, c2, c3⟩ := cells_p hO4'.out
              go_wp2_with fail
              go_loopw [3, 7] (fun s3 s7 wx => s3 = v4 ∧ s7 = .int .i64 0 ∧ wx = w4) (fun s3 s7 wx => 0)
              case atStart => exact ⟨rfl, rfl, rfl⟩
              case round =>
                obtain ⟨rfl, rfl, rfl⟩ := hrel
                go_wp2
                go_roundw
                case rel => exact ⟨k + 1, by go_num, by omega, by rw [← hfin.out]; exact hown4'.out, hB4'.out⟩
                case measure => simp [RowKit.intOf]; omega
      · obtain ⟨_, hs, hnb⟩ := tag_eq K ho
        rw [hsp] at hs
        have ht0 := tag_text ho
        have hk1 : 0 < k := by
          rcases Nat.eq_zero_or_pos k with h | h
          · exact absurd rfl (hk0 h)
          · exact h
        have z2 : a2.size = 0 := by rw [Lib.size_eq, d2, ht0]; rfl
        have hl1 : a1.size ≤ 64 := by rw [Lib.size_eq, d1]; exact nameB_len hnb
        obtain ⟨M, hM⟩ : ∃ M, k - 1 = M := ⟨_, rfl⟩
        have hM1 : (k : Int) - 1 = (M : Int) := by omega
        have hq : ps[M]? = some (ps[M]'(by have := hn'.out; omega)) := List.getElem?_eq_getElem _
        obtain ⟨q, hqe⟩ : ∃ q, ps[M]'(by have := hn'.out; omega) = q := ⟨_, rfl⟩
        rw [hqe] at hq
        have hch : chunk (decide (k = 0)) (was1 ps k) p (ps.drop (k + 1)) = if q.kind = 1 then [] else 60 :: 47 :: (nm p ++ [62]) := by
          rw [decide_eq_false (by omega), was1_at hk1 (by rw [hM]; exact hq)]
          by_cases hq1 : q.kind = 1
          · rw [decide_eq_true hq1, if_pos hq1, chunk_shut K ht0]
          · rw [decide_eq_false hq1, if_neg hq1, chunk_close K ht0]
        obtain ⟨y, hy, yd, ys⟩ := name_vals p a1 sp d1 hsp hs hl1
        obtain ⟨y2, hy2⟩ : ∃ y2, (⟨#[60, 47]⟩ : ByteArray) ++ y = y2 := ⟨_, rfl⟩
        obtain ⟨y3, hy3⟩ : ∃ y3, y2 ++ (⟨#[62]⟩ : ByteArray) = y3 := ⟨_, rfl⟩
        have y2s := cat_size hy2
        rw [show (⟨#[60, 47]⟩ : ByteArray).size = 2 from rfl] at y2s
        have y3s := cat_size hy3
        rw [show (⟨#[62]⟩ : ByteArray).size = 1 from rfl] at y3s
        have y3d : y3.data.toList = 60 :: 47 :: (nm p ++ [62]) := by rw [cat_data hy3, cat_data hy2, yd]; simp
        have m1 : ¬ 9223372036854775807 < (⟨#[60, 47]⟩ : ByteArray).size + y.size := by rw [show (⟨#[60, 47]⟩ : ByteArray).size = 2 from rfl]; omega
        have m1' : ¬ 9223372036854775807 < 2 + y.size := by omega
        have m2 : ¬ 9223372036854775807 < (⟨#[68, 58]⟩ : ByteArray).size + a1.size := by rw [show (⟨#[68, 58]⟩ : ByteArray).size = 2 from rfl]; omega
        have m2' : ¬ 9223372036854775807 < 2 + a1.size := by omega
        have m3 : ¬ 9223372036854775807 < (⟨#[67, 58]⟩ : ByteArray).size + a1.size := by rw [show (⟨#[67, 58]⟩ : ByteArray).size = 2 from rfl]; omega
        have m4 : ¬ 9223372036854775807 < y2.size + (⟨#[62]⟩ : ByteArray).size := by rw [show (⟨#[62]⟩ : ByteArray).size = 1 from rfl]; omega
        have m4' : ¬ 9223372036854775807 < y2.size + 1 := by omega
        have hkd1 : kd = 2 := by rw [← hkd]; exact K
        subst hkd1
        have y3d' := Lib.hid y3d
        have hch' := Lib.hid hch
        have hownp' := Lib.hid hown2
        have hOp' := Lib.hid hO
        have hBp' := Lib.hid hBp
        have hqc : wp.cell? ⟨b, off + M * 4, none⟩ = some (.int .i64 q.kind) := ((hP'.out M q hq).kept hAb (by rw [hZ'.out]; exact hBp)).1
        have hslen : (preX ps k).length + 200 ≤ 140737488355328 := by omega
        clear d1 d2 hp hlen hsp hkd K ho hnb ht0 hch hq hqe hM y3d hs hown2 hbp hBp hO hk0
        by_cases hq1 : q.kind = 1
        · rw [hq1] at hqc
          have hfin : Hid (preX ps k = preX ps (k + 1)) := Lib.hid (by rw [hpre'.out, hch'.out, if_pos hq1, List.append_nil])
          clear hq1
          rcases hy with ⟨rfl, rfl⟩ | ⟨rfl, hy⟩ | ⟨rfl, hy⟩
          all_goals
            obtain ⟨c0, c1, c2, c3⟩ := cells_p hOp'.out
            go_wp2_with fail
            go_loopw [3, 7] (fun s3 s7 wx => BOwn Z s3 (preX ps k) wp ∧ s7 = .int .i64 0 ∧ wx = wp) (fun s3 s7 wx => 0)
            case atStart => exact ⟨hownp'.out, rfl, rfl⟩
            case round =>
              obtain ⟨hownx, rfl, rfl⟩ := hrel
              go_wp2
              go_roundw
              case rel => exact ⟨k + 1, by go_num, by omega, by rw [← hfin.out]; exact hownx, hBp'.out⟩
              case measure => simp [RowKit.intOf]; omega
        · have n1 : (q.kind == 1) = false := beq_eq_false_iff_ne.2 hq1
          have n1' : (q.kind != 1) = true := by unfold bne; rw [n1]; rfl
          obtain ⟨L1, hL1⟩ : ∃ L, preX ps k ++ y3.data.toList = L := ⟨_, rfl⟩
          have l1 : preX ps k ++ y3.data.toList = L1 ∧ L1.length ≤ 140737488355328 := ⟨hL1, by rw [← hL1, List.length_append, ← Lib.size_eq]; omega⟩
          have hfin : Hid (L1 = preX ps (k + 1)) := Lib.hid (by rw [hpre'.out, hch'.out, if_neg hq1, ← hL1, y3d'.out])
          clear hq1
          rcases hy with ⟨rfl, rfl⟩ | ⟨rfl, hy⟩ | ⟨rfl, hy⟩
          all_goals
            obtain ⟨c0, c1, c2, c3⟩ := cells_p hOp'.out
            go_wp2_with (at_builtin; refine append_text2 y3 rfl _ _ rfl Z _ (preX ps k) L1 rfl rfl l1.1 hownp'.out l1.2 hZp ?_)
            intro v1 w1 hown1 hst1
            have hB1' := Lib.hid (hst1.1 _ hBp'.out)
            have hO1' := Lib.hid (hst1.2 _ _ _ hOp'.out)
            have hZ1 : Z ≤ w1.heap.size := by have := hB1'.out.size; rw [hZ'.out] at this; exact this
            have hown1' := Lib.hid hown1
            clear hown1 hst1 c0 c1 c2 c3
            obtain ⟨c0, c1, c2, c3⟩ := cells_p hO1'.out
            go_wp2_with fail
            go_loopw [3, 7] (fun s3 s7 wx => s3 = v1 ∧ s7 = .int .i64 0 ∧ wx = w1) (fun s3 s7 wx => 0)
            case atStart => exact ⟨rfl, rfl, rfl⟩
            case round =>
              obtain ⟨rfl, rfl, rfl⟩ := hrel
              go_wp2
              go_roundw
              case rel => exact ⟨k + 1, by go_num, by omega, by rw [← hfin.out]; exact hown1'.out, hB1'.out⟩
              case measure => simp [RowKit.intOf]; omega
      · have hX := ho
        unfold okTxt at hX
        simp only [Bool.and_eq_true, decide_eq_true_eq, List.isEmpty_iff] at hX
        obtain ⟨⟨x1, x2⟩, _, _⟩ := hX
        have hsp0 : sp = 0 := by rw [← hsp]; exact x2
        have hkd1 : kd = 3 := by rw [← hkd]; exact K
        subst hkd1
        subst hsp0
        rw [chunk_chars K] at hlen
        have hpre2 := Lib.hid (hpre'.out.trans (by rw [chunk_chars K]))
        have hs2 : a2.size ≤ 9223372036854775807 := by
          have : p.text.length ≤ (escT p.text).length := by
            have : ∀ t : Row, t.length ≤ (escT t).length := fun t => by
              induction t with
              | nil => exact Nat.le_refl _
              | cons x t ih =>
                have e : escT (x :: t) = esc x ++ escT t := by simp [escT]
                have h1 : 1 ≤ (esc x).length := by
                  unfold esc
                  repeat' split
                  all_goals simp
                rw [e, List.length_append, List.length_cons]; omega
            exact this _
          have := hsz'.out
          rw [Lib.size_eq, d2]; omega
        have htot : (preX ps k).length + (escT a2.data.toList).length ≤ 1099511627776 := by have := hsz'.out; rw [d2]; omega
        rw [← d2] at hpre2
        have hownp' := Lib.hid hown2
        have hOp' := Lib.hid hO
        have hBp' := Lib.hid hBp
        have htot' := Lib.hid htot
        clear d1 d2 hp hlen hsp hkd K ho hown2 hbp hBp hO x1 x2 htot
        obtain ⟨c0, c1, c2, c3⟩ := cells_p hOp'.out
        go_wp2_with fail
        go_loopw [3, 7] (fun s3 s7 wx => ∃ j : Nat, s7 = .int .i64 (j : Int) ∧ j ≤ a2.size ∧ BOwn Z s3 (preX ps k ++ escT (a2.data.toList.take j)) wx ∧ Below Z w wx ∧ wx.heap[wr.heap.size]? = some (.cells #[.int .i64 3, .int .i64 0, .string a1, .string a2] 37 (0, 0))) (fun s3 s7 wx => a2.size - (RowKit.intOf s7).toNat)
        case atStart => exact ⟨0, rfl, Nat.zero_le _, by simpa [escT] using hownp'.out, hBp'.out, hOp'.out⟩
        case round =>
          obtain ⟨j, rfl, hj, hownx, hBx, hOx⟩ := hrel
          clear c0 c1 c2 c3
          obtain ⟨c0, c1, c2, c3⟩ := cells_p hOx
          have hZx : Z ≤ wr.heap.size := by have := hBx.size; rw [hZ'.out] at this; exact this
          have hownx' := Lib.hid hownx
          have hBx' := Lib.hid hBx
          have hOx' := Lib.hid hOx
          clear hownx hBx hOx
          by_cases hjl : j < a2.size
          · obtain ⟨x, hx⟩ : ∃ x, a2[j]'hjl = x := ⟨_, rfl⟩
            have hjd : j < a2.data.toList.length := by rw [← Lib.size_eq]; exact hjl
            have hxd : a2.data.toList[j]'hjd = x := hx
            have hst := escT_take a2.data.toList j hjd
            rw [hxd] at hst
            have hlt1 := escT_len_take a2.data.toList (j + 1)
            rw [hst, List.length_append] at hlt1
            obtain ⟨E, hE⟩ : ∃ E, preX ps k ++ escT (a2.data.toList.take j) = E := ⟨_, rfl⟩
            have hEl : E.length + (esc x).length ≤ 140737488355328 := by rw [← hE, List.length_append]; have := htot'.out; omega
            have hownx2 := hownx'.out
            rw [hE] at hownx2
            have hownE' := Lib.hid hownx2
            have hnx : Hid (∀ L, E ++ esc x = L → L = preX ps k ++ escT (a2.data.toList.take (j + 1))) := Lib.hid fun L hL => by rw [← hL, ← hE, hst, List.append_assoc]
            clear hst hlt1 hownx2 hownx' hxd hjd hE
            obtain ⟨L5, hL5⟩ : ∃ L, E ++ esc x = L := ⟨_, rfl⟩
            have l5 : E ++ esc x = L5 ∧ L5.length ≤ 140737488355328 := ⟨hL5, by rw [← hL5, List.length_append]; exact hEl⟩
            by_cases x38 : x = 38
            · subst x38
              go_wp2_with (at_builtin; refine append_text2 _ rfl _ _ rfl Z _ E L5 rfl rfl l5.1 hownE'.out l5.2 hZx ?_)
              intro v5 w5 hown5 hst5
              have hB5' := Lib.hid (hst5.1 _ hBx'.out)
              have hO5' := Lib.hid (hst5.2 _ _ _ hOx'.out)
              have hown5' := Lib.hid hown5
              clear hown5 hst5 c0 c1 c2 c3
              go_wp2
              go_roundw
              case rel => exact ⟨j + 1, by go_num, by omega, by rw [← hnx.out L5 hL5]; exact hown5'.out, hB5'.out, hO5'.out⟩
              case measure => simp [RowKit.intOf]; omega
            · have e38 : (((x.toNat : Nat) : Int) == 38) = false := tn (m := 38) rfl x38
              by_cases x60 : x = 60
              · subst x60
                go_wp2_with (at_builtin; refine append_text2 _ rfl _ _ rfl Z _ E L5 rfl rfl l5.1 hownE'.out l5.2 hZx ?_)
                intro v5 w5 hown5 hst5
                have hB5' := Lib.hid (hst5.1 _ hBx'.out)
                have hO5' := Lib.hid (hst5.2 _ _ _ hOx'.out)
                have hown5' := Lib.hid hown5
                clear hown5 hst5 c0 c1 c2 c3
                go_wp2
                go_roundw
                case rel => exact ⟨j + 1, by go_num, by omega, by rw [← hnx.out L5 hL5]; exact hown5'.out, hB5'.out, hO5'.out⟩
                case measure => simp [RowKit.intOf]; omega
              · have e60 : (((x.toNat : Nat) : Int) == 60) = false := tn (m := 60) rfl x60
                by_cases x62 : x = 62
                · subst x62
                  go_wp2_with (at_builtin; refine append_text2 _ rfl _ _ rfl Z _ E L5 rfl rfl l5.1 hownE'.out l5.2 hZx ?_)
                  intro v5 w5 hown5 hst5
                  have hB5' := Lib.hid (hst5.1 _ hBx'.out)
                  have hO5' := Lib.hid (hst5.2 _ _ _ hOx'.out)
                  have hown5' := Lib.hid hown5
                  clear hown5 hst5 c0 c1 c2 c3
                  go_wp2
                  go_roundw
                  case rel => exact ⟨j + 1, by go_num, by omega, by rw [← hnx.out L5 hL5]; exact hown5'.out, hB5'.out, hO5'.out⟩
                  case measure => simp [RowKit.intOf]; omega
                · have e62 : (((x.toNat : Nat) : Int) == 62) = false := tn (m := 62) rfl x62
                  by_cases x13 : x = 13
                  · subst x13
                    go_wp2_with (at_builtin; refine append_text2 _ rfl _ _ rfl Z _ E L5 rfl rfl l5.1 hownE'.out l5.2 hZx ?_)
                    intro v5 w5 hown5 hst5
                    have hB5' := Lib.hid (hst5.1 _ hBx'.out)
                    have hO5' := Lib.hid (hst5.2 _ _ _ hOx'.out)
                    have hown5' := Lib.hid hown5
                    clear hown5 hst5 c0 c1 c2 c3
                    go_wp2
                    go_roundw
                    case rel => exact ⟨j + 1, by go_num, by omega, by rw [← hnx.out L5 hL5]; exact hown5'.out, hB5'.out, hO5'.out⟩
                    case measure => simp [RowKit.intOf]; omega
                  · have e13 : (((x.toNat : Nat) : Int) == 13) = false := tn (m := 13) rfl x13
                    have hex : esc x = [x] := by unfold esc; rw [if_neg x38, if_neg x60, if_neg x62, if_neg x13]
                    rw [hex] at l5
                    clear x38 x60 x62 x13 hex
                    go_wp2_with (at_builtin; refine append_byte2 x (x.toNat : Int) rfl rfl _ _ rfl Z _ E L5 l5.1 _ ?i8 rfl rfl hownE'.out l5.2 hZx ?_)
                    case i8 => simp
                    intro v5 w5 hown5 hst5
                    have hB5' := Lib.hid (hst5.1 _ hBx'.out)
                    have hO5' := Lib.hid (hst5.2 _ _ _ hOx'.out)
                    have hown5' := Lib.hid hown5
                    clear hown5 hst5 c0 c1 c2 c3
                    go_wp2
                    go_roundw
                    case rel => exact ⟨j + 1, by go_num, by omega, by rw [← hnx.out L5 hL5]; exact hown5'.out, hB5'.out, hO5'.out⟩
                    case measure => simp [RowKit.intOf]; omega
          · have hjn : a2.data.toList.take j = a2.data.toList := List.take_of_length_le (by rw [← Lib.size_eq]; omega)
            have hfin := hownx'.out
            rw [hjn, ← hpre2.out] at hfin
            have hfin' := Lib.hid hfin
            clear hjn hfin
            go_wp2
            go_roundw
            case rel => exact ⟨k + 1, by go_num, by omega, hfin'.out, hBx'.out⟩
            case measure => simp [RowKit.intOf]; omega
    · have hk0 : k = n := by omega
      subst hk0
      have hTk : (⟨(preX ps k).toArray⟩ : ByteArray) = T := by rw [← hT'.out, ← preX_all, hn'.out]
      have hconv := conv_own hown
      rw [hTk] at hconv
      clear hown hTk
      go_wp2
      go_ret
      exact ⟨rfl, by rw [hZ'.out]; exact hB⟩
end Go.Proofs.YtjeagjleolmibaaGreatDoor.Xm

/-
  WHAT THE CALLS OF LAYER xml ANSWER (each is shown of the program where its code is walked), AND THE WALK OF THE LAWS' first.
-/
set_option linter.unusedVariables false
namespace Go.Proofs.YtjeagjleolmibaaGreatDoor.Xm
open Go.Lib Go.RowKit

/-! ### how much is printed -/
def szP (p : Pc) : Nat := p.name.length + p.text.length + 1
def szs (ps : List Pc) : Nat := (ps.map szP).sum
theorem esc_len (c : UInt8) : (esc c).length ≤ 5 := by
  unfold esc
  repeat' split
  all_goals simp
theorem escT_len : ∀ (t : Row), (escT t).length ≤ 5 * t.length
  | [] => Nat.zero_le _
  | c :: t => by
    have e : escT (c :: t) = esc c ++ escT t := by simp [escT]
    have h1 := esc_len c
    have h2 := escT_len t
    rw [e, List.length_append, List.length_cons]; omega
theorem nm_len (p : Pc) : (nm p).length ≤ p.name.length + 2 := by
  unfold nm
  repeat' split
  all_goals simp
theorem chunk_len (f o : Bool) (p : Pc) (r : List Pc) : (chunk f o p r).length ≤ 8 * szP p + (if f = true then 56 else 0) := by
  have h1 := nm_len p
  have h2 := escT_len p.text
  have h3 : declS.length = 56 := rfl
  have h4 : (if p.kind = 1 then 60 :: (nm p ++ (if f = true then declS else []) ++ (if nextC r = true then ([47, 62] : Row) else [62])) else []).length ≤ p.name.length + 5 + (if f = true then 56 else 0) := by
    have h5 : (if f = true then declS else []).length = if f = true then 56 else 0 := by split <;> rfl
    have h6 : (if nextC r = true then ([47, 62] : Row) else [62]).length ≤ 2 := by split <;> simp
    split
    · rw [List.length_cons, List.length_append, List.length_append, h5]; omega
    · simp
  have h5 : (if p.kind = 2 ∧ o = false then 60 :: 47 :: (nm p ++ [62]) else [] : Row).length ≤ p.name.length + 5 := by
    split
    · rw [List.length_cons, List.length_cons, List.length_append, List.length_singleton]; omega
    · simp
  by_cases hk : p.kind = 1
  · unfold chunk szP
    rw [List.length_append, List.length_append, if_neg (c := p.kind = 2 ∧ o = false) (fun e => by rw [hk] at e; exact absurd e.1 (by decide)), List.length_nil]
    omega
  · unfold chunk szP
    rw [if_neg hk, List.nil_append, List.length_append]
    omega
theorem chunks_sum : ∀ (ps : List Pc) (o : Bool), ((chunks false o ps).flatten).length ≤ 8 * szs ps
  | [], _ => Nat.zero_le _
  | p :: r, o => by
    have h1 := chunk_len false o p r
    have h2 := chunks_sum r (decide (p.kind = 1))
    show ((chunk false o p r :: chunks false _ r).flatten).length ≤ _
    have h3 : szs (p :: r) = szP p + szs r := by simp [szs]
    rw [List.flatten_cons, List.length_append, h3]
    rw [if_neg (by decide)] at h1
    omega
theorem prX_len (ps : List Pc) : (prX ps).length ≤ 8 * szs ps + 56 := by
  cases ps with
  | nil => exact Nat.zero_le _
  | cons p r =>
    have h1 := chunk_len true false p r
    have h2 := chunks_sum r (decide (p.kind = 1))
    show ((chunk true false p r :: chunks false _ r).flatten).length ≤ _
    have h3 : szs (p :: r) = szP p + szs r := by simp [szs]
    rw [List.flatten_cons, List.length_append, h3]
    rw [if_pos rfl] at h1
    omega
theorem szs_mem {ps : List Pc} {p : Pc} (h : p ∈ ps) : szP p ≤ szs ps := by
  unfold szs
  induction ps with
  | nil => cases h
  | cons q r ih =>
    rw [List.map_cons, List.sum_cons]
    rcases List.mem_cons.1 h with rfl | h
    · omega
    · have := ih h; omega
theorem szs_len (ps : List Pc) : ps.length ≤ szs ps := by
  induction ps with
  | nil => exact Nat.zero_le _
  | cons q r ih =>
    have h3 : szs (q :: r) = szP q + szs r := by simp [szs]
    rw [h3, List.length_cons]; unfold szP; omega

/-! ### contracts -/
abbrev mostS : Nat := 140737488355328
abbrev mostP : Nat := 68719476736
theorem most_of {s : ByteArray} (h : s.data.toList.length ≤ reachBytes) : s.size ≤ mostS := by
  have e : reachBytes = 140737488351232 := rfl
  rw [Lib.size_eq]; unfold mostS; omega
def ParseC : Prop := ∀ (t : ByteArray) (w : World), t.size ≤ mostS → Gw w → Calls Tryz.prog 14 #[.string t] w fun e w' => (∃ v, e = .returned (.tuple #[v, .int .i64 (parseX t.data.toList).2]) ∧ PcsAt w' v (parseX t.data.toList).1) ∧ Below w.heap.size w w'
def CheckC : Prop := ∀ (v : Value) (ps : List Pc) (w : World), PcsAt w v ps → szs ps ≤ mostP → Gw w → Calls Tryz.prog 9 #[v] w fun e w' => e = .returned (.int .i64 (if right ps = true then 0 else 70)) ∧ Below w.heap.size w w'
/-- what Print answers -/
def PrintP (ps : List Pc) (e : Ending) : Prop :=
  (right ps = false ∧ e = .returned (.tuple #[.string ⟨#[]⟩, .int .i64 70])) ∨
  (right ps = true ∧ 65536 < (prX ps).length ∧ e = .returned (.tuple #[.string ⟨#[]⟩, .int .i64 11])) ∨
  (right ps = true ∧ (prX ps).length ≤ 65536 ∧ e = .returned (.tuple #[.string ⟨(prX ps).toArray⟩, .int .i64 0]))
def PrintC : Prop := ∀ (v : Value) (ps : List Pc) (w : World), PcsAt w v ps → szs ps ≤ mostP → Gw w → Calls Tryz.prog 10 #[v] w fun e w' => PrintP ps e ∧ Below w.heap.size w w'

/-! ### the laws' first -/
def firstT : Row := [60, 97, 32, 120, 109, 108, 110, 115, 61, 34, 68, 65, 86, 58, 34, 62, 32, 60, 98, 47, 62, 120, 38, 97, 109, 112, 59, 60, 47, 97, 62]
def firstPs : List Pc := [⟨1, 1, [97], []⟩, ⟨1, 1, [98], []⟩, ⟨2, 1, [98], []⟩, ⟨3, 0, [], [120, 38]⟩, ⟨2, 1, [97], []⟩]
theorem first_parse : parseX firstT = (firstPs, 0) := by decide +kernel
theorem first_bad : parseX [60, 97, 62, 60, 47, 98, 62] = ([], 70) := by decide +kernel
theorem first_right : right firstPs = true := by decide +kernel
theorem first_print : prX firstPs = [60, 68, 58, 97, 32, 120, 109, 108, 110, 115, 58, 68, 61, 34, 68, 65, 86, 58, 34, 32, 120, 109, 108, 110, 115, 58, 67, 61, 34, 117, 114, 110, 58, 105, 101, 116, 102, 58, 112, 97, 114, 97, 109, 115, 58, 120, 109, 108, 58, 110, 115, 58, 99, 97, 114, 100, 100, 97, 118, 34, 62, 60, 68, 58, 98, 47, 62, 120, 38, 97, 109, 112, 59, 60, 47, 68, 58, 97, 62] := by decide +kernel
theorem PcsAt.form {w : World} {v : Value} {ps : List Pc} (h : PcsAt w v ps) : ∃ A c, v = .slice A ps.length c := by
  obtain ⟨A, b, off, c, h, _⟩ := h
  exact ⟨A, c, h⟩
end Go.Proofs.YtjeagjleolmibaaGreatDoor.Xm
